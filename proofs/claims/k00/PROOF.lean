import PyProof.Rows.All
import Wide.All
import OpenK.AllK
import Wide.FinOn
import HandS.ForMost
import HandS.ForExc
import HandS.Wide
import HandS.Ends
import HandS.ExcInit
import KE.KExcIs
import KE.KExcInit
import HandS.IsInst
import HandS.TryMany
import HandS.Style
import PyProof.ReprLen
import PyProof.ReprText
import PySem.Challenge.RW_whyblank_k00_errors_and_what_they_keep
set_option Elab.async false
set_option linter.all false
set_option maxRecDepth 100000
set_option maxHeartbeats 4000000
/-! Wb0: repr of data, and calls whose surroundings run no repr (guards empty). -/
namespace Wb
open PySem PySem.Spec PyProof.Rows L2

/-! ### repr over data -/
def rShow (K : PySem.W.Frag) : List V → Hp → VK → Prop := fun xs H Q =>
  ∃ (x : V) (d : PyData), xs = [x] ∧ Dp K H x d ∧ d.showable = true ∧ d.hasDict = false ∧ d.depth ≤ 60 ∧ d.shown.length ≤ sizeLine ∧ Q (.str d.shown) H
section
variable {X : Cx}
theorem call_show (hg : X.A.guards = some []) (hu : X.A.units + 64 < cLine) : CallR X (.builtin "repr") (rShow X.K) := by
  intro pins s σ H xs us Q I rr hh
  obtain ⟨x, d, rfl, hd, hs, hn, hdep, hl, hq⟩ := hh
  cases rr with
  | cons r1 r2 =>
  cases r2
  rename_i u
  obtain ⟨as, rd⟩ := Dp.reads I d x u hd r1
  have done : ∀ (h' : Heap) (t tk : Nat), (∀ b o, s.heap.get? b = some o → h'.get? b = some o) → EP X pins σ Q (.str d.shown t) { s with heap := h', toks := tk } :=
    fun h' t tk kp => ⟨.str d.shown, H, I.kept kp, ⟨t, rfl⟩, hq⟩
  cases hd with
  | non =>
    obtain rfl : u = Value.none := r1
    simp only [PyData.shown] at done
    exact PySem.P.repr_of_none (done _ _ _ fun _ _ e => e)
  | bl b =>
    obtain rfl : u = Value.bool b := r1
    simp only [PyData.shown] at done
    exact PySem.P.repr_of_bool (done _ _ _ fun _ _ e => e)
  | int i =>
    obtain ⟨t, rfl⟩ := r1
    simp only [PyData.shown] at done
    exact PySem.P.repr_of_int (by simpa [PyData.showable] using hs) (done _ _ _ fun _ _ e => e)
  | str z =>
    obtain ⟨t, rfl⟩ := r1
    simp only [PyData.shown] at done
    exact PySem.P.repr_of_str (done _ _ _ fun _ _ e => e) (by simpa only [PyData.shown] using hl)
  | lst h1 h2 =>
    cases r1
    exact repr_of_reads' rd hs (PyData.noDict_hsm hn) hg (by omega) (fun _ _ e => e) (fun h' t tk kp => done h' t tk kp) hl
  | tup h1 h2 =>
    cases r1
    exact repr_of_reads' rd hs (PyData.noDict_hsm hn) hg (by omega) (fun _ _ e => e) (fun h' t tk kp => done h' t tk kp) hl
end

/-! ### a def that is called where no repr runs -/
structure FnG (P : Program) (w : World) (K : PySem.W.Frag) (mg : Str → Option Value) (base : Heap) (CX : CXT) (k : Nat) (f : Addr) (fd : FuncData) (ps : List Str) (sp : Sp) : Prop where
  arity : ∀ vs H Q E, sp vs H Q E → vs.length = ps.length
  go : ∀ (A : Around) (outer : List Env) (s : Shared) (H : Hp) (args : Args) (us : List Value) (vs : List V) (Q : VK) (E : XK),
    A.guards = some [] → Room k A → Env0 P w K mg base A outer s H → BindsTo s fd args (ps.zip us) → Vals vs us → sp vs H Q E →
    codeAny (model P w) A (.call (.ref f) args) (CR CX outer P w H s Q E) s

theorem FnG.of {P w K mg base CX k f fd ps sp} (F : FnOk P w K mg base CX k f fd ps sp) : FnG P w K mg base CX k f fd ps sp :=
  ⟨F.len, fun A outer s H args us vs Q E _ => F.run A outer s H args us vs Q E⟩

section
variable {P : Program} {w : World} {K : PySem.W.Frag} {mg : Str → Option Value} {base : Heap}
/-- the body of such a def, with the surroundings' guards told -/
theorem okG {CX : CXT} {x qual : Str} {st : Stmt} {f : Addr} {fd : FuncData} {N ps : List Str} {k : Nat} {sp : Sp} (F : Fun K x qual st f fd) (S : FnScope N ps (defScope st)) (ar : ∀ vs H Q E, sp vs H Q E → vs.length = ps.length)
    (body : ∀ (cdv : Value) (A : Around) (outer : List Env) (s : Shared) (H : Hp) (vs : List V) (Q : VK) (E : XK),
      (A.deeper (envOfC qual (defScope st) s.heap.objs.size f cdv)).guards = some [] → Room k (A.deeper (envOfC qual (defScope st) s.heap.objs.size f cdv)) → sp vs H Q E →
      ∃ t, PSs (cxOf CX P w K mg base N qual (defScope st) f cdv A outer s H E) (defBody st) t ∧ t { nx := fun _ H' => Q .non H', rt := Q } (start N vs) H) :
    FnG P w K mg base CX (k + 1) f fd ps sp := by
  obtain ⟨a1, a2, a3, a4, a5, a6, cdv, a8, a9, rfl, found, coded⟩ := F.ex
  refine ⟨ar, ?_⟩
  intro A outer s H args us vs Q E gd room env0 bnd rel want
  have many := ar _ _ _ _ want
  have inS : K.In s.heap := env0.mod.kin.keeps fun b o e => (env0.bs b o e).1
  have noLim : s.heap.NoLimit := env0.mod.nolimit.keeps fun b o e => (env0.bs b o e).1
  refine codeAny_call_function room.depth (inS _ _ found) rfl S.co S.gen rfl (PySem.W.codeRec_of inS coded) (bnd _ _ _ _ ?_)
  have kinds : ∀ y ∈ ps.zip us, (defScope st).names.lookup y.1 = some .local ∨
      ((defScope st).names.lookup y.1 = some .cell ∧ ((cellsFrom (s.heap.objs.size + 1) (defScope st).names []).lookup y.1).isSome = true) := by
    rintro ⟨n, v⟩ mem
    have hp := S.par n (List.of_mem_zip mem).1
    rcases hp with hp | hp
    · exact Or.inl hp
    · exact Or.inr ⟨hp, PySem.W.cellsFrom_some _ _ _ (Or.inl hp)⟩
  refine wpAny_newFunctionEnv_cells S.kind kinds ?_
  intro env isEnv s1 inCall
  subst isEnv
  refine ⟨noLim.keeps inCall.toInCall.keep, codeAny_func ?_⟩
  have gd2 : (A.deeper (envOfC qual (defScope st) s.heap.objs.size f cdv)).guards = some [] := gd
  obtain ⟨t, derived, holds⟩ := body cdv A outer s H vs Q E gd2 (room.deeper _) want
  have inv := inv_start (CX := CX) (E := E) (qual := qual) (cd := cdv) (f := f) S room.hd env0 many rel inCall
  refine wpAny_mono (derived.run [] s1 (start N vs) H _ inv holds) ?_ (fun _ _ z => z)
  intro fl s' got
  cases fl with
  | ret u =>
    obtain ⟨v, σ', H', J, rv, q⟩ := got
    exact ⟨v, H', J.os, J.bare, J.base, J.hok, rv, q⟩
  | next =>
    obtain ⟨σ', H', J, q⟩ := got
    exact ⟨V.non, H', J.os, J.bare, J.base, J.hok, rfl, q⟩
  | brk => obtain ⟨_, _, _, q⟩ := got; exact q.elim
  | cont => obtain ⟨_, _, _, q⟩ := got; exact q.elim
end

/-! ### calling it -/
section
variable {X : Cx} {CX : CXT} {k : Nat} {f : Addr} {fd : FuncData} {ps : List Str} {sp : Sp} {dvs : List V} {ds : List Value} {E : XK} {x : Str} {p pos : Pos} {e : Expr} {es : List Expr} {t : TA}
theorem runG {pins : List (Addr × Obj)} {σ : L2.St} {H : Hp} {s : Shared} {Q : VK} {us : List Value} {vs : List V} (F : FnG X.prog X.w X.K X.mg X.base CX k f fd ps sp) (gd : X.A.guards = some []) (hr : Room k X.A) (hb : Binds X.K fd ps ds) (hd : Vals dvs ds)
    (hx : Passes CX X E) (I : Inv X pins σ H s) (r : Vals vs us) (h : sp (vs ++ dvs) H Q E) : wpAny (model X.prog X.w) X.A (call (.ref f) us) (EP X pins σ Q) X.xe s := by
  have r2 := r.append hd
  have many : (us ++ ds).length = ps.length := r2.length.symm.trans (F.arity _ _ _ _ h)
  apply wpAny_call
  refine codeAny_mono (F.go X.A X.stack s H ⟨us, []⟩ _ _ Q E gd hr I.env0 (hb s us I.kIn many) r2 h) ?_
  intro res s' got
  match res, got with
  | .error er, got => exact hx pins σ H s er s' I got
  | .ok (.ret u), got => exact I.after got
theorem pe_callG (F : FnG X.prog X.w X.K X.mg X.base CX k f fd ps sp) (gd : X.A.guards = some []) (hr : Room k X.A) (hg : Gl X x) (hm : X.mg x = some (.ref f)) (hk : PySem.W.keepIn X.K (.ref f) = true) (hb : Binds X.K fd ps ds) (hd : Vals dvs ds)
    (hx : Passes CX X E) (ha : PA X (e :: es) t) (hdb : (x == ("__debug__" : Str)) = false := by decide) (he : starEach (e :: es) X.env = (false, eval e X.env) :: starEach es X.env := by rfl)
    (hpl : (backTo pos (starEach es X.env)).any (·.1) = false := by rfl) : PE X (.Call (.Name x p) (e :: es) [] pos) (tCall sp dvs E t) := by
  constructor
  intro pins s σ H Q I h
  apply wpAny_Call_Name_kw
  apply ld_glob I hg hm _ hdb
  refine PySem.W.callWith_K (h₀ := X.base) I.ok.mod.kin hk (thn (ha.run pos pins s σ H _ I h) ?_) he hpl
  rintro us s1 ⟨vs, H1, I1, r, q⟩
  exact ⟨I1.kIn, runG F gd hr hb hd hx I1 r q⟩
end
end Wb
set_option Elab.async false
set_option linter.all false
set_option maxRecDepth 100000
set_option maxHeartbeats 4000000
/-! Wb1: the law's own call, guards told. -/
namespace Wb
open PySem PySem.Spec PyProof.Rows L2

/-- the law's def, promised where no repr runs, called from outside -/
theorem lawG {P : Program} {w : World} {K : PySem.W.Frag} {mg mb : Str → Option Value} {CX : CXT} {k : Nat} {fa a : Addr} {fd : FuncData} {x : Str} {sp : Sp} {st : Shared} {vs : List Value} {ns : List Int}
    (inK : K.In st.heap) (names : st.heap.Ns mainGlobals mg) (bns : st.heap.Ns builtinsNs mb) (boot : ∀ x : Str, x ≠ "__name__" → mb x = bootBuiltins x) (lim : st.heap.NoLimit) (nogen : st.gens = #[])
    (atA : st.heap.get? a = some { cls := .type "list", data := .seq vs.toArray }) (areInts : IntsAre vs ns) (short : ns.length ≤ sizeLine) (room : Room k callerA)
    (F : ∀ base : Heap, K.In base → base.Ns mainGlobals mg → FnG P w K mg base CX k fa fd [x] sp) (bind1 : ∀ (s : Shared) (u : Value), BindsTo s fd ⟨[u], []⟩ [(x, u)])
    (want : ∀ H : Hp, Only H → SqL K H a (ns.map V.int) → sp [.ref a] H (fun v _ => v = .bl true) fun _ _ _ => False)
    (noX : ∀ H e s', CX [] H st (fun _ _ _ => False) e s' → False) :
    codeAny (model P w) callerA (.call (.ref fa) ⟨[.ref a], []⟩) (fun r s' => r = .ok (.ret (.bool true)) ∧ OldK st.heap s'.heap ∧ s'.os = st.os ∧ AllBare s'.gens) st := by
  have rel := vals_ints areInts
  have same := areInts.length
  -- what is told of any abstract heap that tracks the script at most
  suffices go : ∀ H : Hp, Only H → SqL K H a (ns.map V.int) → HOk P w H st.heap → (∀ b, H b ≠ none → b = a) → (H a ≠ none → K.lookup a = none) →
      codeAny (model P w) callerA (.call (.ref fa) ⟨[.ref a], []⟩) (fun r s' => r = .ok (.ret (.bool true)) ∧ OldK st.heap s'.heap ∧ s'.os = st.os ∧ AllBare s'.gens) st by
    rcases own : K.lookup a with _ | ob
    · -- the script is tracked, as a thing that stands still
      let frozen : HO := .frz { cls := .type "list", data := .seq vs.toArray } (.lst (ns.map V.int))
      refine go (fun b => if b = a then some frozen else none) ?_ ?_ ?_ ?_ (fun _ => own)
      · intro b
        by_cases e : b = a
        · exact Or.inr ⟨_, _, if_pos e⟩
        · exact Or.inl (if_neg e)
      · exact Or.inl (Or.inr ⟨_, if_pos rfl⟩)
      · intro b u e
        by_cases h : b = a
        · subst h
          cases (if_pos rfl).symm.trans e
          exact ⟨atA, by simpa using short, vs, _, rel, atA⟩
        · cases (if_neg h).symm.trans e
      · intro b e
        by_cases h : b = a
        · exact h
        · exact absurd (if_neg h) e
    · -- the script is one of the module's own objects
      have there := inK a ob own
      rw [atA] at there
      cases there
      refine go (fun _ => none) (fun _ => Or.inl rfl) ?_ (fun b u e => ?_) (fun b e => absurd rfl e) (fun e => absurd rfl e)
      · exact Or.inr ⟨_, vs.toArray, _, own, rfl, rfl, rfl, by rw [List.size_toArray, same]; exact short, by simpa using rel⟩
      · have e' : (none : Option HO) = some u := e
        cases e'
  intro H only seq ok just notK
  have keepB : ∀ {b : Addr} {o : Obj}, st.heap.get? b = some o → H b = none → (hidT st.heap H).get? b = some o := fun e n => hidT_get e n
  have dictFree : ∀ {b : Addr} {o : Obj} {es : Array DictEntry} {ep : Nat}, st.heap.get? b = some o → o.data = .dict es ep → H b = none := by
    intro b o es ep e d
    by_cases q : H b = none
    · exact q
    · have h := just b q
      subst h
      rw [atA] at e
      cases e
      have d' : Data.seq vs.toArray _ = Data.dict es ep := d
      cases d'
  have nsIn : ∀ {b : Addr} {m : Str → Option Value}, st.heap.Ns b m → (hidT st.heap H).Ns b m := by
    rintro b m ⟨o, es, ep, e, d, r⟩
    exact ⟨o, es, ep, keepB e (dictFree e d), d, r⟩
  have inBase : K.In (hidT st.heap H) := by
    intro b o e
    refine keepB (inK b o e) ?_
    by_cases q : H b = none
    · exact q
    · have h := just b q
      subst h
      rw [notK q] at e
      cases e
  have md : Mod K mg (hidT st.heap H) := by
    obtain ⟨mc, l1, l2⟩ := lim
    exact ⟨inBase, nsIn names, ⟨mb, nsIn bns, boot⟩, ⟨mc, nsIn l1, l2⟩⟩
  have env0 : Env0 P w K mg (hidT st.heap H) callerA [] st H :=
    ⟨rfl, md, fun b o e => of_hidT e, Nat.le_of_eq (hidT_size _ _), trivial, fun b hb => absurd (show b ∈ ([] : List Addr) from hb) (by simp), ok, .of_eq nogen⟩
  have ran := (F _ inBase (nsIn names)).go callerA [] st H ⟨[.ref a], []⟩ [.ref a] [.ref a] _ _ rfl room env0 (bind1 st (.ref a)) (.cons rfl .nil) (want H only seq)
  refine codeAny_mono ran ?_
  intro r s' h
  match r, h with
  | .error e, h => exact (noX H e s' h).elim
  | .ok (.ret u), h =>
    obtain ⟨v, H', os, bare, un, ok', rv, q⟩ := h
    have q' : v = .bl true := q
    subst q'
    obtain rfl : u = Value.bool true := rv
    refine ⟨rfl, OldK.of_keep ?_, os, bare⟩
    intro b o e
    by_cases q : H b = none
    · exact un.keep b o e q (fun z => absurd (show b ∈ ([] : List Addr) from z) (by simp)) (by simp)
    · rcases only b with z | ⟨ob, xs, z⟩
      · exact absurd z q
      · obtain ⟨e1, _⟩ := ok b _ z
        obtain ⟨e2, _⟩ := ok' b _ (un.frzs b ob _ z)
        rw [e] at e1
        cases e1
        exact e2

/-- the goal that the head leaves, from such a promise of the law's def -/
theorem walkG {l : PySem.W.OpenLaw} {n k : Nat} {q : Program} {loose : List Str} {XP : (Str → Option Value) → Heap → Prop} {YP : World → Heap → Prop} {d : DefRec} {K : Params → PySem.W.Frag} {CX : World → CXT} {sp : World → Sp} {x : Str}
    (h1 : l.most = some n) (h2 : n ≤ sizeLine) (h3 : d.params.defaults = []) (room : Room k callerA) (hY : ∀ (w : World) (h : Heap), YP w h → (K w.params).In h)
    (F : ∀ (w : World) (mg : Str → Option Value) (fa : Addr) (h : Heap), (K w.params).In h → h.Ns mainGlobals mg → mg d.name = some (.ref fa) →
      ∃ fd : FuncData, (∀ (s : Shared) (u : Value), BindsTo s fd ⟨[u], []⟩ [(x, u)]) ∧
        ∀ base : Heap, (K w.params).In base → base.Ns mainGlobals mg → FnG l.prog w (K w.params) mg base (CX w) k fa fd [x] (sp w))
    (want : ∀ (w : World) (H : Hp) (a : Addr) (ns : List Int), ns.length ≤ n → Only H → SqL (K w.params) H a (ns.map V.int) → sp w [.ref a] H (fun v _ => v = .bl true) fun _ _ _ => False)
    (noX : ∀ (w : World) (H : Hp) (s : Shared) (e : Value) (s' : Shared), CX w [] H s (fun _ _ _ => False) e s' → False) :
    PySem.W.WalkO q loose XP YP l.row.toRowW d [] (fun f vs => PySem.call f vs) := by
  apply Att.attach_call h1 h3
  intro w s₀ s₁ mg mb fa o pm cd doc a vs ns G Y ho hd hcd hmg hobj hints hlen hg
  have inK := hY w _ Y
  obtain ⟨fd, hb, hF⟩ := F w mg fa _ inK G.T.g hmg
  exact lawG inK G.T.g G.T.b G.T.builtins G.T.nolimit hg hobj hints (Nat.le_trans hlen h2) room hF hb (fun H hO hS => want w H a ns hlen hO hS) fun H e s' => noX w H s₁ e s'
end Wb
set_option Elab.async false
set_option linter.all false
set_option maxRecDepth 100000
set_option maxHeartbeats 4000000
/-! Wb2: own exceptions as values: made (by position and by name), their field read, isinstance. -/
namespace PySem
namespace WbE
open PySem.W PySem.Calls PyProof.Rows
section
variable {prog : Program} {w : World} {M : Model} {A : Around} {E : Value → Shared → Prop} {R : Result → Shared → Prop} {h : Heap} {g : Array GenState} {d : Drawn} {t : Nat} {os : OsState}
variable {nm q : Str} {C N : Addr} {bs bm bmB : List Value} {hdct : Bool} {sn : List Str} {sub : List Value} {ab : Bool} {col : Option Bool} {dd : Option Addr} {k0 k1 k2 k3 k5 : Option Value} {B newId initId : String}
variable {rest : List Value} {kw : List (Str × Value)}

/-- what is asked of the class's chain: the built-in base is in it, the two bases with members of their own are not -/
structure Chain (bm : List Value) (B : String) : Prop where
  base : bm.contains (.type B) = true
  noA : bm.contains (.type "AttributeError") = false
  noN : bm.contains (.type "NameError") = false

theorem checkNew (F : ExcBaseFacts B newId initId bmB) (ch : Chain bm B) {Q : Unit → Shared → Prop} (atC : h.get? C = some (excClassObj nm q C N bs bm hdct sn sub ab col dd k0 k1 k2 k3 k5 newId))
    (hq : Q () ⟨h, g, d, t, os⟩) : wpAny M A (checkBuiltinCall newId ⟨.ref C :: rest, kw⟩) Q E ⟨h, g, d, t, os⟩ := by
  have inB : (Value.ref C :: bm).contains (.type B) = true := by
    rw [List.contains_cons, ch.base, Bool.or_true]
  have star := F.noStar
  simp only [checkBuiltinCall, F.newKind, F.newSplit, F.newRow]
  repeat (first
    | refine wpAny_loadPart_at atC ?_
    | (refine wpAny_isSubtype_exc atC ?_; rw [inB])
    | refine wpAny_staticBase_exc atC ?_
    | refine wpAny_madeBy_exc atC ?_
    | simp only [bne_self_eq_false, Bool.false_eq_true, if_false]
    | wp_step)
  exact hq

theorem runNew (F : ExcBaseFacts B newId initId bmB) (ch : Chain bm B) (atC : h.get? C = some (excClassObj nm q C N bs bm hdct sn sub ab col dd k0 k1 k2 k3 k5 newId)) (short : rest.length ≤ sizeLine)
    (hq : R (.ok (.ret (.ref (h.objs.size + 1)))) ⟨(h.push (W.kdv_tup rest)).push (HandSPX.excO C h.objs.size), g, d, t, os⟩) :
    codeAny (model prog w) A (.builtin newId ⟨.ref C :: rest, kw⟩) R ⟨h, g, d, t, os⟩ := by
  have ends := F.ends
  have inB : (Value.ref C :: bm).contains (.type B) = true := by
    rw [List.contains_cons, ch.base, Bool.or_true]
  have outA : (Value.ref C :: bm).contains (.type "AttributeError") = false := by
    rw [List.contains_cons, ch.noA]
    rfl
  have outN : (Value.ref C :: bm).contains (.type "NameError") = false := by
    rw [List.contains_cons, ch.noN]
    rfl
  refine codeAny_builtinAt F.entry ?_
  unfold Builtin.«BaseException.__new__»
  apply wpAt_bind
  show wpAt _ _ _ (stack >>= _) _ _ _
  apply wpAt_bind
  apply wpAt_stack
  intro p below
  apply wpAt_of_wpAny
  wp_walk
  apply wpAt_of_wpAny
  rw [F.owner]
  repeat (first
    | with_reducible refine wpAny_madeHere_exc F.canon atC ?_
    | with_reducible refine wpAny_loadPart_at atC ?_
    | (with_reducible refine wpAny_isSubtype_exc atC ?_; first | rw [inB] | rw [outA] | rw [outN])
    | wp_step)
  show R _ _
  rw [Heap.size_push]
  exact hq

theorem runCall (F : ExcBaseFacts B newId initId bmB) (ch : Chain bm B) {iv : Value} {Q : Fin → Shared → Prop} (atC : h.get? C = some (excClassObj nm q C N bs bm hdct sn sub ab col dd k0 k1 k2 k3 k5 newId))
    (lk : W.Looks (model prog w) h (typeLookup (.ref C) "__init__") (some iv)) (bd : ∀ self, W.Looks (model prog w) h (bindSpecial iv self) (iv, [self])) (short : rest.length ≤ sizeLine)
    (hq : codeAny (model prog w) A (.call iv ⟨.ref (h.objs.size + 1) :: rest, kw⟩)
      (fun r s' => match r with
        | .ok (.ret v) => v = .none ∧ Q (.done (.ret (.ref (h.objs.size + 1)))) s'
        | .ok _ => False
        | .error e => E e s')
      ⟨(h.push (W.kdv_tup rest)).push (HandSPX.excO C h.objs.size), g, d, t, os⟩) :
    wpAny (model prog w) A (Builtin.«type.__call__» ⟨.ref C :: rest, kw⟩) Q E ⟨h, g, d, t, os⟩ := by
  repeat (first
    | with_reducible refine wpAny_loadPart_at atC ?_
    | with_reducible refine wpAny_madeBy_exc atC ?_
    | wp_step)
  refine codeAny_call_builtin_code (Code.quiet_builtin _ F.quiet) (checkNew F ch atC ?_)
  refine runNew F ch atC short ?_
  show wpAny _ _ _ _ _ _
  have grown : ∀ b o, h.get? b = some o → ((h.push (W.kdv_tup rest)).push (HandSPX.excO C h.objs.size)).get? b = some o :=
    fun b o e => Heap.get?_push_of_some _ (Heap.get?_push_of_some _ e)
  have atC1 := grown _ _ atC
  have made : ((h.push (W.kdv_tup rest)).push (HandSPX.excO C h.objs.size)).get? (h.objs.size + 1) = some (HandSPX.excO C h.objs.size) := by heap_get
  have self_ : (Value.ref C :: bm).contains (.ref C) = true := by simp
  have lk1 := lk.keeps grown
  have bd1 := (bd (.ref (h.objs.size + 1))).keeps grown
  unfold isInstance
  repeat (first
    | with_reducible refine wpAny_loadPart_at made ?_
    | (with_reducible refine wpAny_isSubtype_exc atC1 ?_; rw [self_])
    | wp_step)
  show wpAny _ _ (typeLookup (.ref C) _) _ _ _
  refine lk1.at ?_
  refine wpAny_holding (wpAny_bind (bd1.at ?_))
  apply wpAny_bind
  refine wpAny_call (codeAny_mono hq ?_)
  intro r s' z
  match r, z with
  | .error e, z => exact z
  | .ok (.ret v), z =>
    obtain ⟨rfl, z⟩ := z
    first
      | exact wpAny_pure (wpAny_pure z)
      | (wp_walk; exact z)

theorem callE (F : ExcBaseFacts B newId initId bmB) (ch : Chain bm B) {iv : Value} (atC : h.get? C = some (excClassObj nm q C N bs bm hdct sn sub ab col dd k0 k1 k2 k3 k5 newId))
    (lk : W.Looks (model prog w) h (typeLookup (.ref C) "__init__") (some iv)) (bd : ∀ self, W.Looks (model prog w) h (bindSpecial iv self) (iv, [self])) (short : rest.length ≤ sizeLine)
    (hq : codeAny (model prog w) (A.under (.builtin "type.__call__" ⟨.ref C :: rest, kw⟩)) (.call iv ⟨.ref (h.objs.size + 1) :: rest, kw⟩) (W.InitBack (h.objs.size + 1) R)
      ⟨(h.push (W.kdv_tup rest)).push (HandSPX.excO C h.objs.size), g, d, t, os⟩) :
    codeAny (model prog w) A (.call (.ref C) ⟨rest, kw⟩) R ⟨h, g, d, t, os⟩ := by
  have e1 := tc_lookup
  have e2 := tc_bind (.ref C)
  have isT : (⟨h, g, d, t, os⟩ : Shared).TypeIs (.ref C) "type" := ⟨_, atC, rfl⟩
  apply codeAny_of_tree
  show wpAny _ _ (callAny (.ref C) _) _ _ _
  repeat (any_goals (first
    | assumption
    | with_reducible refine wpAny_loadPart_at atC ?_
    | wp_step))
  refine ⟨rfl, ?_⟩
  refine codeAny_call_builtin_at (Code.quiet_builtin _ (by decide +kernel)) entry_typeCall ?_
  refine wpAny_check_type_call_sub atC ?_
  refine runCall F ch atC lk bd short (codeAny_mono hq ?_)
  intro r s' z
  match r, z with
  | .error e, z => exact z
  | .ok (.ret v), z => exact z
end
end WbE
end PySem
set_option Elab.async false
set_option linter.all false
set_option maxRecDepth 100000
set_option maxHeartbeats 4000000
/-! Wb3: own exceptions as tracked values. -/
namespace PySem.F
theorem storeKeyError : StoreFacts "KeyError"
    [.type "KeyError", .type "LookupError", .type "Exception", .type "BaseException", .type "object"]
    "object.__setattr__" "object" := by
  refine ⟨by kernel_rfl, ?_, entry_object_sa, by decide +kernel, by decide +kernel, by decide +kernel, ?_, fun _ => by kernel_rfl⟩
  · refine .of (owner := "object") (n := "__setattr__") ?_ (by decide +kernel) (by decide +kernel) (by decide +kernel) ?_ ?_
    · rw [typeLookup_type, builtinLookup_eq_fast]
      kernel_rfl
    · first
        | exact .inl (by decide +kernel)
        | exact .inr (by decide +kernel)
    · rw [isSubtype_type]
      kernel_rfl
  · intro a b c
    unfold argsOk
    kernel_rfl
end PySem.F
namespace PySem
namespace WbE
open PySem.W PySem.Calls PyProof.Rows
section
open Builtin Builtin.ObjectAttr
variable {prog : Program} {w : World} {A : Around} {R : Result → Shared → Prop} {hp : Heap} {g : Array GenState} {d : Drawn} {t : Nat} {os : OsState}
/-- the first field of an exception of an own class, whatever its built-in base -/
theorem setFirst {S : String} {bmS : List Value} {K : W.Frag} {name : Str} {tk : Tok} {v : Value} {x C : Addr} {fv : Array Value} {cd : ClassData} (SF : StoreFacts S bmS "object.__setattr__" "object")
    (X : K.In hp) (hx : hp.get? x = some { cls := .ref C, data := .fields fv }) (hcd : W.clsIn K C = some cd) (hd : cd.hasDict = true) (over : excOver K C bmS = true) (no : W.findIn K (.ref C) name = some none)
    (hq : ∀ h' tk' dx, (∀ b o, b ≠ x → hp.get? b = some o → h'.get? b = some o) → hp.objs.size ≤ dx → dx ≠ x →
      h'.get? x = some { cls := .ref C, dict := some dx, data := .fields fv } → h'.Ns1 dx (fun y => if y = name then some v else none) → R (.ok (.ret .none)) ⟨h', g, d, tk', os⟩) :
    codeAny (model prog w) A (.call (.builtin "object.__setattr__") ⟨[.ref x, .str name tk, v], []⟩) R ⟨hp, g, d, t, os⟩ := by
  have at_ : W.InstAt hp x { cls := .ref C, data := .fields fv } C none := ⟨hx, rfl, rfl, trivial⟩
  have ne : x ≠ hp.objs.size := Nat.ne_of_lt (Heap.lt_size hx)
  have look : W.Looks (model prog w) hp (classData C) cd := W.looks_clsIn X hcd
  have taker : W.takerIn K C name = some none := by
    unfold W.takerIn
    rw [no]
    rfl
  refine W.osa_openX (s := ⟨hp, g, d, t, os⟩) SF X at_ over taker fun b => ?_
  obtain ⟨c1, c2, c3, c4, c5, hasD, c7, c8, c9, c10, c11⟩ := cd
  dsimp only at hd
  subst hd
  unfold storeInOwnDict ownDictForStores
  repeat (first
    | with_reducible refine HandSPX.store_in_new ?_ ?_
    | with_reducible refine wpAny_loadPart_at hx ?_
    | with_reducible refine look.at ?_
    | wp_step)
  · exact ⟨_, #[], _, (Heap.get?_update_ne _ _ _ _ ne.symm).trans (Heap.get?_push_at rfl rfl), rfl, fun e he => absurd he (by simp), fun _ => rfl⟩
  · intro h' tk' ns' same
    have pushed : (hp.push { cls := .type "dict", data := .dict #[] }).get? x = some { cls := .ref C, data := .fields fv } := Heap.get?_push_of_some _ hx
    refine hq h' tk' hp.objs.size ?_ (Nat.le_refl _) ne.symm ?_ ns'
    · intro b o hb ho
      rw [same.2 b (Nat.ne_of_lt (Heap.lt_size ho)), Heap.get?_update_ne _ _ _ _ hb]
      exact Heap.get?_push_of_some _ ho
    · rw [same.2 x ne]
      exact Heap.get?_update_self _ pushed rfl
end
end WbE
end PySem

namespace Wb
open PySem PySem.Spec PyProof.Rows L2
/-- what the written part says of an own exception's class at C: made by newId (of the built-in B), the fields stored as S's chain stores them -/
structure ErrC (K : PySem.W.Frag) (C : Addr) : Prop where
  new : ∃ (B newId initId : String) (bmB : List Value) (nm q : Str) (N : Addr) (bs bm : List Value) (sn : List Str) (sub : List Value) (ab : Bool) (col : Option Bool) (dd : Option Addr) (k0 k1 k2 k3 k5 : Option Value),
    PySem.ExcBaseFacts B newId initId bmB ∧ PySem.WbE.Chain bm B ∧ K.lookup C = some (excClassObj nm q C N bs bm true sn sub ab col dd k0 k1 k2 k3 k5 newId)
  store : ∃ (S : String) (bmS : List Value), PySem.StoreFacts S bmS "object.__setattr__" "object" ∧ PySem.W.excOver K C bmS = true
  sa : PySem.W.findIn K (.ref C) "__setattr__" = some (some (.builtin "object.__setattr__"))
  ga : PySem.W.findIn K (.ref C) "__getattribute__" = some (some (.builtin "BaseException.__getattribute__"))
  gg : PySem.W.findIn K (.ref C) "__getattr__" = some none
  exc : PySem.W.subIn K (.ref C) (.type "BaseException") = some true
  ty : PySem.W.typeIn K (.ref C) = some (.type "type")
  hd : PySem.W.hasDictIn K C = true
  kp : PySem.W.keepIn K (.ref C) = true
  hc : PySem.W.findIn K (.ref C) "__class__" = some (some (.builtin "object.__class__"))
  hn : PySem.W.specialIn K (.builtin "object.__class__") "__get__" = some (some (.builtin "getset_descriptor.__get__"))
  ht : PySem.W.takesIn K (.builtin "object.__class__") = some true
  hm : PySem.W.mroIn K C (.type "object") = some true

section
variable {X : Cx} {pins : List (Addr × Obj)} {σ : L2.St} {H : Hp} {s : Shared} {a C dx fI : Addr} {f : Str} {y v : V} {u : Value} {fs : List (Str × V)} {A : Around} {k : Nat}
/-- self.f = y in an __init__, the first field -/
theorem setNew {Q : Unit → Shared → Prop} {E : Value → Shared → Prop} (T : ErrC X.K C) (I : Inv X pins σ H s) (e : H a = some (exo a C none)) (no : PySem.W.findIn X.K (.ref C) f = some none) (ry : RelV y u)
    (h : ∀ dx s', H dx = none → dx ≠ a → Inv X pins σ (upd (upd H dx (exd dx [(f, y)])) a (exo a C (some dx))) s' → Q () s') : wpAny (model X.prog X.w) A (setAttr (.ref a) f u) Q E s := by
  obtain ⟨B, newId, initId, bmB, nm, q, N, bs, bm, sn, sub, ab, col, dd, k0, k1, k2, k3, k5, _, _, atC⟩ := T.new
  obtain ⟨S, bmS, SF, over⟩ := T.store
  have cls : PySem.W.clsIn X.K C = some { name := nm, bases := bs, mro := .ref C :: bm, ns := N, qualname := q, hasDict := true, slotNames := sn, subclasses := sub, abstract := ab, collection := col, hasDel := false } := by
    unfold PySem.W.clsIn
    rw [atC] <;> rfl
  obtain ⟨t1, ho⟩ := exo_at I.hok e
  obtain ⟨hp, g, d, t, os⟩ := s
  refine PySem.W.set_plain I.kIn (ox := { cls := .ref C, dict := none, data := .fields #[.ref t1, .none, .none, .none, .bool false, .none] }) (od := none) ⟨ho, rfl, rfl, trivial⟩ T.sa ?_
  refine PySem.WbE.setFirst SF I.kIn ho cls rfl over no ?_
  intro h' tk' dx kept big ne hx ns'
  have free : H dx = none := I.hok.fresh big
  have old : ∀ {b : Addr} {o : Obj}, hp.get? b = some o → b ≠ dx := fun {b o} z => Nat.ne_of_lt (Nat.lt_of_lt_of_le (Heap.lt_size z) big)
  have notA : ∀ {b : Addr}, H b = none → b ≠ a := by
    intro b n z
    rw [z, e] at n
    cases n
  have un : Un X.fs [] H (upd (upd H dx (exd dx [(f, y)])) a (exo a C (some dx))) hp h' := by
    constructor
    · exact fun b o z n _ _ => kept b o (notA n) z
    · exact fun b o z n _ _ => ⟨o.slots, kept b o (notA n) z⟩
    · intro b o z n _
      rw [upd_ne (notA n), upd_ne (old z)]
      exact n
    · intro b o z _
      by_cases hb : b = a
      · exact ⟨_, by rw [hb]; exact hx⟩
      · exact ⟨o, kept b o hb z⟩
    · intro b xs z
      rw [upd_ne (at_ne e z exo_tup), upd_ne (ne_of_none z free)]
      exact z
    · intro b o w z
      rw [upd_ne (at_ne e z exo_frz), upd_ne (ne_of_none z free)]
      exact z
    · intro b ps z
      refine ⟨#[], ?_⟩
      rw [upd_ne (at_ne e z exo_tbl), upd_ne (ne_of_none z free), z]
      simp
  refine h dx _ free ne (I.un (t' := tk') un ?_)
  intro b o z
  by_cases hb : b = a
  · subst hb
    rw [upd_same] at z
    cases z
    exact exo_ok hx
  rw [upd_ne hb] at z
  by_cases hb2 : b = dx
  · subst hb2
    rw [upd_same] at z
    cases z
    exact exd_ok ns' (relO_put (fs := []) ry fun g => True.intro)
  rw [upd_ne hb2] at z
  refine (I.hok b o z).stay ?_ ?_ ?_
  · intro c w hc z2
    refine kept c w ?_ z2
    rcases hc with hc | hc
    · rw [hc]; exact hb
    · exact at_ne e hc exo_own
  · intro c hc
    rw [upd_ne (at_ne e hc exo_own), upd_ne (ne_of_none hc free)]
    exact hc
  · intro c xs hc
    rw [upd_ne (at_ne e hc exo_tup), upd_ne (ne_of_none hc free)]
    exact hc

/-- C(..), C(k = ..) with C's own __init__: an exception at a new address -/
theorem runErr {CX : CXT} {fd : FuncData} {ps : List Str} {sp : Sp} {us : List Value} {kw : List (Str × Value)} {vs : List V} {binds : List Value} {Q : VK} (T : ErrC X.K C) (iC : PySem.W.findIn X.K (.ref C) "__init__" = some (some (.ref fI)))
    (tI : PySem.W.typeIn X.K (.ref fI) = some (.type "function")) (F1 : FnOk X.prog X.w X.K X.mg X.base CX k fI fd ps sp) (room : Room (k + 1) X.A) (hx : Passes CX X (fun _ _ _ => False)) (I : Inv X pins σ H s) (short : us.length ≤ sizeLine)
    (bind : ∀ (s' : Shared) (a : Addr), X.K.In s'.heap → BindsTo s' fd ⟨.ref a :: us, kw⟩ (ps.zip (.ref a :: binds))) (rel : Vals vs binds)
    (h : ∀ a, H a = none → sp (.ref a :: vs) (upd H a (exo a C none)) (fun v H2 => v = .non ∧ Q (.ref a) H2) (fun _ _ _ => False)) :
    wpAny (model X.prog X.w) X.A (call (.ref C) us kw) (EP X pins σ Q) X.xe s := by
  obtain ⟨B, newId, initId, bmB, nm, q, N, bs, bm, sn, sub, ab, col, dd, k0, k1, k2, k3, k5, FB, ch, atC⟩ := T.new
  obtain ⟨hp, g, dr, tk, os⟩ := s
  have le1 : hp.objs.size ≤ hp.objs.size + 1 := Nat.le_succ _
  have free : H (hp.objs.size + 1) = none := I.hok.fresh le1
  have want := h _ free
  have grown : ∀ b o, hp.get? b = some o → ((hp.push (PySem.W.kdv_tup us)).push (PySem.HandSPX.excO C hp.objs.size)).get? b = some o :=
    fun b o e => Heap.get?_push_of_some _ (Heap.get?_push_of_some _ e)
  have made : ((hp.push (PySem.W.kdv_tup us)).push (PySem.HandSPX.excO C hp.objs.size)).get? (hp.objs.size + 1) = some (PySem.HandSPX.excO C hp.objs.size) := by heap_get
  have I2 : Inv X pins σ (upd H (hp.objs.size + 1) (exo (hp.objs.size + 1) C none)) ⟨(hp.push (PySem.W.kdv_tup us)).push (PySem.HandSPX.excO C hp.objs.size), g, dr, tk, os⟩ :=
    I.laid (t' := tk) (a := hp.objs.size + 1) (o := exo (hp.objs.size + 1) C none) (h' := (hp.push (PySem.W.kdv_tup us)).push (PySem.HandSPX.excO C hp.objs.size)) grown le1 (exo_ok made)
  have rel2 : Vals (V.ref (hp.objs.size + 1) :: vs) (Value.ref (hp.objs.size + 1) :: binds) := .cons rfl rel
  apply wpAny_call
  refine PySem.WbE.callE (iv := .ref fI) FB ch (I.kIn _ _ atC) (PySem.W.looks_findIn I.kIn iC) (fun self => PySem.W.bind_fn I.kIn self tI) short ?_
  refine codeAny_mono (F1.run _ X.stack _ _ ⟨Value.ref (hp.objs.size + 1) :: us, kw⟩ (Value.ref (hp.objs.size + 1) :: binds) _ _ (fun _ _ _ => False) (room.make C us kw) (I2.env0.make C us kw) (bind _ _ I2.kIn) rel2 want) ?_
  intro r s' got
  match r, got with
  | .error er, got => exact hx pins σ _ _ er s' I2 got
  | .ok (.ret u), got =>
    obtain ⟨v, H', I3, rv, ev, q3⟩ := I2.after got
    subst ev
    exact ⟨rv, ⟨V.ref (hp.objs.size + 1), H', I3, rfl, q3⟩⟩
end
end Wb
set_option Elab.async false
set_option linter.all false
set_option maxRecDepth 100000
set_option maxHeartbeats 4000000
/-! Wb4: the rules over them. -/
namespace Wb
open PySem PySem.Spec PyProof.Rows L2

theorem upd_mid {H : Hp} {a d : Addr} {o p q : HO} : upd (upd (upd H a o) d p) a q = upd (upd H d p) a q := by
  funext b
  unfold upd
  by_cases h : b = a
  · rw [if_pos h, if_pos h]
  · rw [if_neg h, if_neg h]
    by_cases h2 : b = d
    · rw [if_pos h2, if_neg h]
    · rw [if_neg h2, if_neg h]

/-- self.f = e of an exception's __init__ -/
def tIni (K : PySem.W.Frag) (f : Str) (to te : TE) : TS := fun D σ H => te σ H fun y H1 => to σ H1 fun x H2 =>
  ∃ a C : Addr, x = .ref a ∧ ErrC K C ∧ PySem.W.findIn K (.ref C) f = some none ∧ H2 a = some (exo a C none) ∧
    ∀ dx, H2 dx = none → dx ≠ a → D.nx σ (upd (upd H2 dx (exd dx [(f, y)])) a (exo a C (some dx)))
/-- err.f -/
def tEFld (K : PySem.W.Frag) (f : Str) (to : TE) : TE := fun σ H Q => to σ H fun x H1 =>
  ∃ (a C dx : Addr) (fs : List (Str × V)) (v : V), x = .ref a ∧ H1 a = some (exo a C (some dx)) ∧ H1 dx = some (exd dx fs) ∧ ErrC K C ∧ PySem.W.findIn K (.ref C) f = some none ∧ fs.lookup f = some v ∧ Q v H1
/-- isinstance(err, c) -/
def rIsErr (K : PySem.W.Frag) : List V → Hp → VK → Prop := fun xs H Q =>
  ∃ (a C : Addr) (od : Option Addr) (c : V) (cu : Value) (b : Bool), xs = [.ref a, c] ∧ H a = some (exo a C od) ∧ (∀ dx, od = some dx → ∃ fs, H dx = some (exd dx fs)) ∧ ErrC K C ∧ ClsV c cu ∧
    PySem.W.kitOne K (.ref C) cu = some b ∧ Q (.bl b) H
/-- C(v): an exception at a, its dict at dx -/
def tErr (C : Addr) (f : Str) (ta : TA) : TE := fun σ H Q => ta σ H fun vs H1 =>
  ∃ v, vs = [v] ∧ ∀ a dx, H1 a = none → H1 dx = none → dx ≠ a → Q (.ref a) (upd (upd H1 dx (exd dx [(f, v)])) a (exo a C (some dx)))
/-- the same, to be raised -/
def tErrX (C : Addr) (f : Str) (ta : TA) : L2.St → Hp → XK → Prop := fun σ H Q => ta σ H fun vs H1 =>
  ∃ v, vs = [v] ∧ ∀ dx, H1 dx = none → Q (.ref C) (some dx) (upd H1 dx (.xd [(f, v)]))
/-- __init__(self, f): self.f = f -/
def spIni (C : Addr) (f : Str) : Sp := fun vs H Q _ => ∃ (a : Addr) (v : V), vs = [.ref a, v] ∧ H a = some (exo a C none) ∧
  ∀ dx, H dx = none → dx ≠ a → Q .non (upd (upd H dx (exd dx [(f, v)])) a (exo a C (some dx)))
/-- __init__(self): pass -/
def spIni0 : Sp := fun vs H Q _ => ∃ a : Addr, vs = [.ref a] ∧ Q .non H

section
variable {X : Cx} {o e : Expr} {es : List Expr} {kws : List Keyword} {to te : TE} {ta : TA} {f x : Str} {p p' pos : Pos} {C fI : Addr} {fd : FuncData} {CX : CXT} {k : Nat}
theorem ps_ini (ho : PE X o to) (he : PE X e te) (hs : swapsWith e (some (.Attribute o f p')) pos.line X.env = pure false := by rfl) : PS X (.Assign [.Attribute o f p'] e pos) (tIni X.K f to te) := by
  constructor
  intro pins s σ H D I h
  refine plainObj_wpAny_Assign_Attribute (thn (he.run pins s σ H _ I h) ?_) hs
  rintro v s1 ⟨y, H1, I1, ry, q1⟩
  refine thn (ho.run pins s1 σ H1 _ I1 q1) ?_
  rintro u s2 ⟨x, H2, I2, rx, a, C, rfl, T, no, ea, q⟩
  obtain rfl : u = Value.ref a := rx
  exact setNew T I2 ea no ry fun dx s' n ne J => ⟨σ, _, J, q dx n ne⟩

theorem readErr {pins : List (Addr × Obj)} {σ : L2.St} {H : Hp} {s : Shared} {a dx : Addr} {fs : List (Str × V)} {v : V} {b : Bool} {A : Around} {Q : Value → Shared → Prop} {E : Value → Shared → Prop} (T : ErrC X.K C) (I : Inv X pins σ H s) (ea : H a = some (exo a C (some dx)))
    (ed : H dx = some (exd dx fs)) (no : PySem.W.findIn X.K (.ref C) f = some none) (l : fs.lookup f = some v) (h : ∀ u t', RelV v u → Q u { s with toks := t' }) : wpAny (model X.prog X.w) A (getAttr (.ref a) f b) Q E s := by
  obtain ⟨t1, ho⟩ := exo_at I.hok ea
  obtain ⟨mA, hns, rel⟩ := exd_at I.hok ed
  obtain ⟨od, hod, look⟩ := lookIn_ns hns
  obtain ⟨u, hu, ru⟩ := RelO.some_of (v := v) (o := mA f) (by rw [← l]; exact rel f)
  exact PySem.HandSPX.exc_get (od := some od) I.kIn ⟨ho, rfl, rfl, hod⟩ T.ga T.gg T.exc (PySem.W.findObj_own T.hd no rfl (by rw [look, hu])) (handed_of ru) (h u _ ru)

theorem pe_efld (ho : PE X o to) (hb : attributeBase o f X.env (eval o X.env) = eval o X.env := by rfl) : PE X (.Attribute o f pos) (tEFld X.K f to) := by
  constructor
  intro pins s σ H Q I h
  refine attr_of hb (thn (ho.run pins s σ H _ I h) ?_)
  rintro u s1 ⟨x, H1, I1, rx, a, C, dx, fs, v, rfl, ea, ed, T, no, l, q⟩
  obtain rfl : u = Value.ref a := rx
  exact readErr T I1 ea ed no l fun w t' rw' => ⟨v, H1, I1.tok t', rw', q⟩

theorem call_isErr : CallR X (.builtin "isinstance") (rIsErr X.K) := by
  intro pins s σ H xs us Q I r h
  obtain ⟨a, C, od, c, cu, b, rfl, ea, hod, T, kc, ek, q⟩ := h
  obtain ⟨u1, u2, rfl, r1, r2⟩ := vals2 r
  obtain rfl : u1 = Value.ref a := r1
  have e2 := kc.eq r2
  subst e2
  obtain ⟨t1, ho⟩ := exo_at I.hok ea
  have cls : (PySem.W.clsIn X.K C).isSome = true := by
    obtain ⟨cd, hcd, _⟩ := PySem.W.any_some T.hd
    rw [hcd]
    rfl
  have fin : ∀ tk, EP X pins σ Q (.bool b) { s with toks := tk } := fun tk => ⟨.bl b, H, I.tok tk, rfl, q⟩
  cases od with
  | none =>
    exact PySem.W.kia_one (PySem.W.kitx_exc (od := none) cls T.ga T.gg T.exc T.hc T.hn T.ht T.hm) I.kIn (⟨ho, rfl, rfl, trivial⟩ : PySem.W.InstAt s.heap a _ C none) ek (fun z => nomatch z) fin
  | some dx =>
    obtain ⟨fs, ed⟩ := hod dx rfl
    obtain ⟨mA, hns, _⟩ := exd_at I.hok ed
    obtain ⟨od, hod, _⟩ := lookIn_ns hns
    exact PySem.W.kia_one (PySem.W.kitx_exc (od := some od) cls T.ga T.gg T.exc T.hc T.hn T.ht T.hm) I.kIn (⟨ho, rfl, rfl, hod⟩ : PySem.W.InstAt s.heap a _ C (some od)) ek (fun z => nomatch z) fin

/-- C(e) -/
theorem pe_err (T : ErrC X.K C) (iC : PySem.W.findIn X.K (.ref C) "__init__" = some (some (.ref fI))) (tI : PySem.W.typeIn X.K (.ref fI) = some (.type "function")) {ps : List Str} (F1 : FnOk X.prog X.w X.K X.mg X.base CX k fI fd ps (spIni C f)) (room : Room (k + 1) X.A)
    (hb : Binds X.K fd ps []) (hx : Passes CX X (fun _ _ _ => False)) (hg : Gl X x) (hm : X.mg x = some (.ref C)) (ha : PA X (e :: es) ta) (hdb : (x == ("__debug__" : Str)) = false := by decide)
    (he : starEach (e :: es) X.env = (false, eval e X.env) :: starEach es X.env := by rfl) (hpl : (backTo pos (starEach es X.env)).any (·.1) = false := by rfl) : PE X (.Call (.Name x p) (e :: es) [] pos) (tErr C f ta) := by
  constructor
  intro pins s σ H Q I h
  apply wpAny_Call_Name_kw
  apply ld_glob I hg hm _ hdb
  refine PySem.W.callWith_K (h₀ := X.base) I.ok.mod.kin T.kp (thn (ha.run pos pins s σ H _ I h) ?_) he hpl
  rintro us s1 ⟨vs, H1, I1, r1, v, rfl, q⟩
  refine ⟨I1.kIn, ?_⟩
  show wpAny _ _ (call (.ref C) us) _ _ _
  have want : ∀ a : Addr, H1 a = none → spIni C f (.ref a :: [v]) (upd H1 a (exo a C none)) (fun v H2 => v = .non ∧ Q (.ref a) H2) (fun _ _ _ => False) := by
    intro a ha
    refine ⟨a, v, rfl, upd_same, fun dx hd ne => ⟨rfl, ?_⟩⟩
    rw [upd_mid]
    rw [upd_ne ne] at hd
    exact q a dx ha hd ne
  have many : ∀ a : Addr, (Value.ref a :: us).length = ps.length := by
    intro a
    obtain ⟨n0, hn0⟩ : ∃ n0, H1 n0 = none := ⟨s1.heap.objs.size, I1.hok.fresh (Nat.le_refl _)⟩
    have e1 := F1.len _ _ _ _ (want n0 hn0)
    have e2 := r1.length
    simp only [List.length_cons] at e1 e2 ⊢
    omega
  refine runErr T iC tI F1 room hx I1 (binds := us) (vs := [v]) ?_ ?_ r1 want
  · rw [← r1.length, sizeLine_eq]
    simp
  · intro s' a inK
    have q2 := hb s' (.ref a :: us) inK (by rw [List.append_nil]; exact many a)
    rw [List.append_nil] at q2
    exact q2

/-- C(f = e) -/
theorem pe_errK {g : Str} {kpos : Pos} (T : ErrC X.K C) (iC : PySem.W.findIn X.K (.ref C) "__init__" = some (some (.ref fI))) (tI : PySem.W.typeIn X.K (.ref fI) = some (.type "function")) {s0 : Str} (F1 : FnOk X.prog X.w X.K X.mg X.base CX k fI fd [s0, g] (spIni C f)) (room : Room (k + 1) X.A)
    (hb : ∀ (s' : Shared) (a v : Value), BindsTo s' fd ⟨[a], [(g, v)]⟩ [(s0, a), (g, v)]) (hx : Passes CX X (fun _ _ _ => False)) (hg : Gl X x) (hm : X.mg x = some (.ref C)) (he : PE X e te) (hdb : (x == ("__debug__" : Str)) = false := by decide) :
    PE X (.Call (.Name x p) [] [⟨some g, e, kpos⟩] pos) (tErr C f (tCons te tNil)) := by
  constructor
  intro pins s σ H Q I h
  apply wpAny_Call_Name_kw
  apply ld_glob I hg hm _ hdb
  have pk : PK X [⟨some g, e, kpos⟩] (tCons te tNil) := pk_cons he pk_nil
  refine PySem.W.callWith_KW0 (h₀ := X.base) I.ok.mod.kin T.kp (by rfl) (thn (pk.run pos pins s σ H _ I h) ?_)
  rintro us s1 ⟨vs, H1, I1, r1, v, rfl, q⟩
  refine ⟨I1.kIn, ?_⟩
  have want : ∀ a : Addr, H1 a = none → spIni C f (.ref a :: [v]) (upd H1 a (exo a C none)) (fun v H2 => v = .non ∧ Q (.ref a) H2) (fun _ _ _ => False) := by
    intro a ha
    refine ⟨a, v, rfl, upd_same, fun dx hd ne => ⟨rfl, ?_⟩⟩
    rw [upd_mid]
    rw [upd_ne ne] at hd
    exact q a dx ha hd ne
  cases r1 with
  | cons rv rn =>
  cases rn
  rename_i u
  refine runErr (us := []) (kw := [(g, u)]) T iC tI F1 room hx I1 (binds := [u]) (vs := [v]) (by rw [sizeLine_eq]; simp) ?_ (.cons rv .nil) want
  intro s' a inK
  exact hb s' _ _
end
end Wb
set_option Elab.async false
set_option linter.all false
set_option maxRecDepth 100000
set_option maxHeartbeats 4000000
/-! Wb5: own exceptions raised; those whose __init__ does nothing; those without one. -/
namespace Wb
open PySem PySem.Spec PyProof.Rows L2

section
variable {X : Cx} {e : Expr} {es : List Expr} {te : TE} {ta : TA} {f x : Str} {p p' pos : Pos} {C fI : Addr} {fd : FuncData} {CX : CXT} {k : Nat}
theorem untracked' {H : Hp} {a dx : Addr} {o o' u : HO} {z : HO} (ha : H a = none) (ne : dx ≠ a) : upd (del (upd (upd (upd H a o) dx u) a o') a) dx z = upd H dx z := by
  funext b
  unfold upd del
  by_cases h : b = dx
  · rw [if_pos h, if_pos h]
  · rw [if_neg h, if_neg h]
    by_cases h2 : b = a
    · rw [if_pos h2, h2, ha]
    · rw [if_neg h2]
      show (if b = a then some o' else if b = dx then some u else if b = a then some o else H b) = H b
      rw [if_neg h2, if_neg h, if_neg h2]

/-- C(e), to be raised -/
theorem pmk_err (T : ErrC X.K C) (iC : PySem.W.findIn X.K (.ref C) "__init__" = some (some (.ref fI))) (tI : PySem.W.typeIn X.K (.ref fI) = some (.type "function")) {ps : List Str} (F1 : FnOk X.prog X.w X.K X.mg X.base CX k fI fd ps (spIni C f)) (room : Room (k + 1) X.A)
    (hb : Binds X.K fd ps []) (hx : Passes CX X (fun _ _ _ => False)) (hg : Gl X x) (hm : X.mg x = some (.ref C)) (ha : PA X (e :: es) ta) (hdb : (x == ("__debug__" : Str)) = false := by decide)
    (he : starEach (e :: es) X.env = (false, eval e X.env) :: starEach es X.env := by rfl) (hpl : (backTo pos (starEach es X.env)).any (·.1) = false := by rfl) : PMk X (.Call (.Name x p) (e :: es) [] pos) (tErrX C f ta) := by
  intro pins s σ H Q I h
  obtain ⟨B, newId, initId, bmB, nm, q, N, bs, bm, sn, sub, ab, col, dd, k0, k1, k2, k3, k5, FB, ch, atC⟩ := T.new
  apply wpAny_Call_Name_kw
  apply ld_glob I hg hm _ hdb
  refine PySem.W.callWith_K (h₀ := X.base) I.ok.mod.kin T.kp (thn (ha.run pos pins s σ H _ I h) ?_) he hpl
  rintro us s1 ⟨vs, H1, I1, r1, v, rfl, q1⟩
  refine ⟨I1.kIn, ?_⟩
  show wpAny _ _ (call (.ref C) us) _ _ _
  obtain ⟨hp, g, dr, tk, os⟩ := s1
  have le1 : hp.objs.size ≤ hp.objs.size + 1 := Nat.le_succ _
  have free : H1 (hp.objs.size + 1) = none := I1.hok.fresh le1
  have want : spIni C f (.ref (hp.objs.size + 1) :: [v]) (upd H1 (hp.objs.size + 1) (exo (hp.objs.size + 1) C none))
      (fun r H2 => r = .non ∧ ∃ d : Addr, H2 (hp.objs.size + 1) = some (exo (hp.objs.size + 1) C (some d)) ∧ H2 d = some (exd d [(f, v)]) ∧ H1 d = none ∧ Q (.ref C) (some d) (upd (del H2 (hp.objs.size + 1)) d (.xd [(f, v)]))) (fun _ _ _ => False) := by
    refine ⟨_, v, rfl, upd_same, fun dx hd ne => ⟨rfl, dx, upd_same, ?_, ?_, ?_⟩⟩
    · rw [upd_ne ne, upd_same]
    · rw [upd_ne ne] at hd
      exact hd
    · rw [untracked' free ne]
      rw [upd_ne ne] at hd
      exact q1 dx hd
  have grown : ∀ b o, hp.get? b = some o → ((hp.push (PySem.W.kdv_tup us)).push (PySem.HandSPX.excO C hp.objs.size)).get? b = some o :=
    fun b o z => Heap.get?_push_of_some _ (Heap.get?_push_of_some _ z)
  have made : ((hp.push (PySem.W.kdv_tup us)).push (PySem.HandSPX.excO C hp.objs.size)).get? (hp.objs.size + 1) = some (PySem.HandSPX.excO C hp.objs.size) := by heap_get
  have I2 : Inv X pins σ (upd H1 (hp.objs.size + 1) (exo (hp.objs.size + 1) C none)) ⟨(hp.push (PySem.W.kdv_tup us)).push (PySem.HandSPX.excO C hp.objs.size), g, dr, tk, os⟩ :=
    I1.laid (t' := tk) (a := hp.objs.size + 1) (o := exo (hp.objs.size + 1) C none) (h' := (hp.push (PySem.W.kdv_tup us)).push (PySem.HandSPX.excO C hp.objs.size)) grown le1 (exo_ok made)
  have rel2 : Vals (V.ref (hp.objs.size + 1) :: [v]) (Value.ref (hp.objs.size + 1) :: us) := .cons rfl r1
  have many : (Value.ref (hp.objs.size + 1) :: us).length = ps.length := rel2.length.symm.trans (F1.len _ _ _ _ want)
  have short : us.length ≤ sizeLine := by
    rw [← r1.length, sizeLine_eq]
    simp
  have hb2 := hb ⟨(hp.push (PySem.W.kdv_tup us)).push (PySem.HandSPX.excO C hp.objs.size), g, dr, tk, os⟩ (Value.ref (hp.objs.size + 1) :: us) I2.kIn (by rw [List.append_nil]; exact many)
  rw [List.append_nil] at hb2
  apply wpAny_call
  refine PySem.WbE.callE (iv := .ref fI) FB ch (I1.kIn _ _ atC) (PySem.W.looks_findIn I1.kIn iC) (fun self => PySem.W.bind_fn I1.kIn self tI) short ?_
  refine codeAny_mono (F1.run _ X.stack _ _ ⟨Value.ref (hp.objs.size + 1) :: us, []⟩ (Value.ref (hp.objs.size + 1) :: us) _ _ (fun _ _ _ => False) (room.make C us []) (I2.env0.make C us []) hb2 rel2 want) ?_
  intro r s' got
  match r, got with
  | .error er, got => exact hx pins σ _ _ er s' I2 got
  | .ok (.ret u), got =>
    obtain ⟨r, H2, os2, bare2, un2, ok2, rv, ev, d, ea, ed, hd1, q2⟩ := got
    subst ev
    obtain ⟨h2, g2, d2, t2, os'⟩ := s'
    exact ⟨rv, mk_end (raises_own T.exc T.ty) I1 le1 grown un2 ok2 os2 bare2 ea ed hd1 q2⟩
end

/-! ### an __init__ that does nothing -/
section
variable {prog : Program} {w : World} {A : Around} {R : Result → Shared → Prop} {s : Shared} {K : PySem.W.Frag}
theorem idle {qual : Str} {st : Stmt} {fI : Addr} {fd : FuncData} {pp : Pos} {x : Value} (inK : K.In s.heap) (lim : s.heap.NoLimit) (F : Fun K "__init__" qual st fI fd) (body : defBody st = [.Pass pp])
    (S : FnScope ["self"] ["self"] (defScope st)) (loc : (defScope st).names.lookup ("self" : Str) = some NameKind.local) (bind : BindsTo s fd ⟨[x], []⟩ [("self", x)]) (room : A.depth < recursionLimit)
    (hq : ∀ h' tk, (∀ b o, s.heap.get? b = some o → h'.get? b = some o) → R (.ok (.ret .none)) { s with heap := h', toks := tk }) :
    codeAny (model prog w) A (.call (.ref fI) ⟨[x], []⟩) R s := by
  obtain ⟨a1, a2, a3, a4, a5, a6, cdv, a8, a9, rfl, found, coded⟩ := F.ex
  refine Att.call_fn inK lim found coded room bind ?_ ?_ S.co S.gen S.kind
  · simp [loc]
  · intro s1 ic
    obtain ⟨h1, tk1, rfl⟩ := ic.toInCall.same
    rw [body]
    refine wpAny_execs_cons (wpAny_Pass ?_)
    exact wpAny_execs_nil (hq h1 tk1 ic.toInCall.keep)
end
section
variable {X : Cx} {f x : Str} {p pos : Pos} {C fI : Addr} {fd : FuncData} {k : Nat}
/-- C(): an exception at a new address -/
def tErr0 (C : Addr) : TE := fun _ H Q => ∀ a, H a = none → Q (.ref a) (upd H a (exo a C none))
def tErrX0 (C : Addr) : L2.St → Hp → XK → Prop := fun _ H Q => Q (.ref C) none H

theorem run0 {pins : List (Addr × Obj)} {σ : L2.St} {H : Hp} {s : Shared} {qual : Str} {st : Stmt} {pp : Pos} {Q : Value → Shared → Prop} {E : Value → Shared → Prop} (T : ErrC X.K C) (iC : PySem.W.findIn X.K (.ref C) "__init__" = some (some (.ref fI))) (tI : PySem.W.typeIn X.K (.ref fI) = some (.type "function"))
    (F : Fun X.K "__init__" qual st fI fd) (body : defBody st = [.Pass pp]) (S : FnScope ["self"] ["self"] (defScope st)) (loc : (defScope st).names.lookup ("self" : Str) = some NameKind.local) (bind : ∀ (s : Shared) (v : Value), BindsTo s fd ⟨[v], []⟩ [("self", v)]) (room : Room 1 X.A) (I : Inv X pins σ H s)
    (hq : ∀ h' tk t0, (∀ b o, s.heap.get? b = some o → h'.get? b = some o) → h'.get? (s.heap.objs.size + 1) = some (PySem.HandSPX.excO C t0) → s.heap.get? t0 = none → h'.get? t0 = some (PySem.W.kdv_tup []) → Q (.ref (s.heap.objs.size + 1)) { s with heap := h', toks := tk }) :
    wpAny (model X.prog X.w) X.A (call (.ref C) []) Q E s := by
  obtain ⟨B, newId, initId, bmB, nm, q, N, bs, bm, sn, sub, ab, col, dd, k0, k1, k2, k3, k5, FB, ch, atC⟩ := T.new
  have lim := I.nolimit
  have inK := I.kIn
  obtain ⟨hp, g, dr, tk, os⟩ := s
  have grown : ∀ b o, hp.get? b = some o → ((hp.push (PySem.W.kdv_tup [])).push (PySem.HandSPX.excO C hp.objs.size)).get? b = some o :=
    fun b o z => Heap.get?_push_of_some _ (Heap.get?_push_of_some _ z)
  have made : ((hp.push (PySem.W.kdv_tup [])).push (PySem.HandSPX.excO C hp.objs.size)).get? (hp.objs.size + 1) = some (PySem.HandSPX.excO C hp.objs.size) := by heap_get
  have made2 : ((hp.push (PySem.W.kdv_tup [])).push (PySem.HandSPX.excO C hp.objs.size)).get? hp.objs.size = some (PySem.W.kdv_tup []) := by heap_get
  apply wpAny_call
  refine PySem.WbE.callE (iv := .ref fI) FB ch (inK _ _ atC) (PySem.W.looks_findIn inK iC) (fun self => PySem.W.bind_fn inK self tI) (by rw [sizeLine_eq]; simp) ?_
  refine idle (s := ⟨(hp.push (PySem.W.kdv_tup [])).push (PySem.HandSPX.excO C hp.objs.size), g, dr, tk, os⟩) (inK.keeps grown) (lim.keeps grown) F body S loc (bind _ _) ?_ ?_
  · have := (room.make C [] [] (k := 0)).depth
    exact this
  · intro h' tk' kept
    exact ⟨rfl, hq h' tk' hp.objs.size (fun b o z => kept b o (grown b o z)) (kept _ _ made) (Heap.get?_none_of_le (Nat.le_refl _)) (kept _ _ made2)⟩

theorem pe_err0 {qual : Str} {st : Stmt} {pp : Pos} (T : ErrC X.K C) (iC : PySem.W.findIn X.K (.ref C) "__init__" = some (some (.ref fI))) (tI : PySem.W.typeIn X.K (.ref fI) = some (.type "function"))
    (F : Fun X.K "__init__" qual st fI fd) (body : defBody st = [.Pass pp]) (S : FnScope ["self"] ["self"] (defScope st)) (loc : (defScope st).names.lookup ("self" : Str) = some NameKind.local) (bind : ∀ (s : Shared) (v : Value), BindsTo s fd ⟨[v], []⟩ [("self", v)]) (room : Room 1 X.A)
    (hg : Gl X x) (hm : X.mg x = some (.ref C)) (hdb : (x == ("__debug__" : Str)) = false := by decide) : PE X (.Call (.Name x p) [] [] pos) (tErr0 C) := by
  constructor
  intro pins s σ H Q I h
  apply wpAny_Call_Name_kw
  apply ld_glob I hg hm _ hdb
  refine PySem.W.callWith_K0 I.kIn T.kp ?_
  refine run0 T iC tI F body S loc bind room I ?_
  intro h' tk t0 kept made _ _
  exact ⟨.ref _, _, I.laid (t' := tk) kept (Nat.le_succ _) (exo_ok made), rfl, h _ (I.hok.fresh (Nat.le_succ _))⟩

theorem pmk_err0 {qual : Str} {st : Stmt} {pp : Pos} (T : ErrC X.K C) (iC : PySem.W.findIn X.K (.ref C) "__init__" = some (some (.ref fI))) (tI : PySem.W.typeIn X.K (.ref fI) = some (.type "function"))
    (F : Fun X.K "__init__" qual st fI fd) (body : defBody st = [.Pass pp]) (S : FnScope ["self"] ["self"] (defScope st)) (loc : (defScope st).names.lookup ("self" : Str) = some NameKind.local) (bind : ∀ (s : Shared) (v : Value), BindsTo s fd ⟨[v], []⟩ [("self", v)]) (room : Room 1 X.A)
    (hg : Gl X x) (hm : X.mg x = some (.ref C)) (hdb : (x == ("__debug__" : Str)) = false := by decide) : PMk X (.Call (.Name x p) [] [] pos) (tErrX0 C) := by
  intro pins s σ H Q I h
  apply wpAny_Call_Name_kw
  apply ld_glob I hg hm _ hdb
  refine PySem.W.callWith_K0 I.kIn T.kp ?_
  refine run0 T iC tI F body S loc bind room I ?_
  intro h' tk t0 kept made fr madeT
  have mexc : Heap.MadeExcOf s.heap h' (s.heap.objs.size + 1) (.ref C) [] := ⟨kept, Heap.get?_none_of_le (Nat.le_succ _), t0, made, fr, madeT⟩
  have J : Inv X pins σ H { s with toks := tk } := I.tok tk
  exact mk_of (s := { s with toks := tk }) J mexc (raises_own T.exc T.ty) h (I.hok.fresh (Nat.le_succ _))

/-- a class without own __init__: C() -/
theorem pe_errB {B newId initId : String} {bmB : List Value} (T : ErrC X.K C) (FB : PySem.ExcBaseFacts B newId initId bmB) (iC : PySem.W.findIn X.K (.ref C) "__init__" = some (some (.builtin initId)))
    (new : ∃ (nm q : Str) (N : Addr) (bs bm : List Value) (sn : List Str) (sub : List Value) (ab : Bool) (col : Option Bool) (dd : Option Addr) (k0 k1 k2 k3 k5 : Option Value),
      X.K.lookup C = some (excClassObj nm q C N bs bm true sn sub ab col dd k0 k1 k2 k3 k5 newId) ∧ PySem.WbE.Chain bm B ∧ ∀ X : String, bm.contains (.type X) = bmB.contains (.type X))
    (hg : Gl X x) (hm : X.mg x = some (.ref C)) (hdb : (x == ("__debug__" : Str)) = false := by decide) : PE X (.Call (.Name x p) [] [] pos) (tErr0 C) := by
  obtain ⟨nm, q, N, bs, bm, sn, sub, ab, col, dd, k0, k1, k2, k3, k5, atC, ch, hT⟩ := new
  constructor
  intro pins s σ H Q I h
  apply wpAny_Call_Name_kw
  apply ld_glob I hg hm _ hdb
  refine PySem.W.callWith_K0 I.kIn T.kp ?_
  show wpAny _ _ (call (.ref C) []) _ _ _
  have inK := I.kIn
  have fr := I.hok.fresh (a := s.heap.objs.size + 1) (Nat.le_succ _)
  obtain ⟨hp, g, dr, tk, os⟩ := s
  have grown : ∀ b o, hp.get? b = some o → ((hp.push (PySem.W.kdv_tup [])).push (PySem.HandSPX.excO C hp.objs.size)).get? b = some o :=
    fun b o z => Heap.get?_push_of_some _ (Heap.get?_push_of_some _ z)
  have made : ((hp.push (PySem.W.kdv_tup [])).push (PySem.HandSPX.excO C hp.objs.size)).get? (hp.objs.size + 1) = some (PySem.HandSPX.excO C hp.objs.size) := by heap_get
  apply wpAny_call
  refine PySem.WbE.callE (iv := .builtin initId) FB ch (inK _ _ atC) (PySem.W.looks_findIn inK iC) (fun self => ?_) (by rw [sizeLine_eq]; simp) ?_
  · rw [FB.init.bind self]
    exact .now
  · refine PySem.HandSPX.init_base FB hT (grown _ _ (inK _ _ atC)) made (by rw [sizeLine_eq]; simp) ?_
    intro h' t1 kept now
    have old : ∀ b o, hp.get? b = some o → h'.get? b = some o := fun b o z => kept b o (Nat.ne_of_lt (Nat.lt_succ_of_lt (Heap.lt_size z))) (grown b o z)
    exact ⟨rfl, .ref _, _, I.laid (t' := tk) old (Nat.le_succ _) (exo_ok now), rfl, h _ fr⟩
end
end Wb
set_option Elab.async false
set_option linter.all false
set_option maxRecDepth 100000
set_option maxHeartbeats 4000000
/-! Wb6: the deal that a law draws from: what is known of it, and what is kept beside it. -/
namespace Wb
open PySem PySem.Spec PyProof.Rows L2

/-- the heap without the deal's two lists -/
def off (H : Hp) (d c : Addr) : Hp := fun b => if b = d ∨ b = c then none else H b
theorem off_at {H : Hp} {d c b : Addr} (h1 : b ≠ d) (h2 : b ≠ c) : off H d c b = H b := if_neg (fun z => z.elim h1 h2)
theorem off_some {H : Hp} {d c b : Addr} {o : HO} (h : off H d c b = some o) : H b = some o ∧ b ≠ d ∧ b ≠ c := by
  unfold off at h
  by_cases e : b = d ∨ b = c
  · rw [if_pos e] at h
    cases h
  · rw [if_neg e] at h
    exact ⟨h, fun z => e (.inl z), fun z => e (.inr z)⟩
theorem off_le (H : Hp) (d c : Addr) : Same (off H d c) H := fun b o h => (off_some h).1
theorem off_mono {H H' : Hp} {d c : Addr} (h : Same H H') : Same (off H d c) (off H' d c) := by
  intro b o z
  obtain ⟨z1, z2, z3⟩ := off_some z
  rw [off_at z2 z3]
  exact h b o z1
theorem off_none {H : Hp} {d c b : Addr} (h : H b = none) : off H d c b = none := by
  unfold off
  split
  · rfl
  · exact h
/-- a new object is kept -/
theorem new_same {H : Hp} {p : Addr} {o : HO} (h : H p = none) : Same H (upd H p o) := fun b u z => by
  rw [upd_ne (ne_of_none z h)]
  exact z
theorem off_new {H : Hp} {d c p : Addr} {o : HO} (h1 : p ≠ d) (h2 : p ≠ c) : off (upd H p o) d c p = some o := by
  rw [off_at h1 h2]
  exact upd_same

/-- the deal: a list at d of the cells' list at c, and a number -/
structure Deal (H : Hp) (d c : Addr) : Prop where
  ex : ∃ (cs : List Int) (mix : Int), H d = some (.lst [.ref c, .int mix]) ∧ H c = some (.lst (cs.map V.int)) ∧ cs.length ≤ 63 ∧ (∀ z ∈ cs, 0 ≤ z) ∧ 0 ≤ mix ∧ mix < 2147483647
theorem Deal.ne {H : Hp} {d c : Addr} (D : Deal H d c) : d ≠ c := by
  obtain ⟨cs, mix, h1, h2, _⟩ := D.ex
  refine ne_of h1 h2 fun z => ?_
  have z2 : [V.ref c, V.int mix] = cs.map V.int := HO.lst.inj z
  cases cs with
  | nil => cases z2
  | cons a r => cases z2
theorem Deal.same {H H' : Hp} {d c : Addr} (D : Deal H d c) (s : Same H H') : Deal H' d c := by
  obtain ⟨cs, mix, h1, h2, h3⟩ := D.ex
  exact ⟨cs, mix, s _ _ h1, s _ _ h2, h3⟩
/-- a free address is none of the deal's -/
theorem Deal.free {H : Hp} {d c p : Addr} (D : Deal H d c) (h : H p = none) : p ≠ d ∧ p ≠ c := by
  obtain ⟨cs, mix, h1, h2, h3⟩ := D.ex
  exact ⟨(ne_of_none h1 h).symm, (ne_of_none h2 h).symm⟩
/-- the deal's own lists changed: all else is kept -/
theorem off_dc {H : Hp} {d c : Addr} {o u : HO} : off (upd (upd H c o) d u) d c = off H d c := by
  funext b
  unfold off
  by_cases e : b = d ∨ b = c
  · rw [if_pos e, if_pos e]
  · rw [if_neg e, if_neg e, upd_ne (fun z => e (.inl z)), upd_ne (fun z => e (.inr z))]
theorem off_c {H : Hp} {d c : Addr} {o : HO} : off (upd H c o) d c = off H d c := by
  funext b
  unfold off
  by_cases e : b = d ∨ b = c
  · rw [if_pos e, if_pos e]
  · rw [if_neg e, if_neg e, upd_ne (fun z => e (.inr z))]
theorem off_d {H : Hp} {d c : Addr} {o : HO} : off (upd H d o) d c = off H d c := by
  funext b
  unfold off
  by_cases e : b = d ∨ b = c
  · rw [if_pos e, if_pos e]
  · rw [if_neg e, if_neg e, upd_ne (fun z => e (.inl z))]

theorem seqT {K : PySem.W.Frag} {H H' : Hp} {a : Addr} {xs : List V} (e : Same H H') (h : SqT K H a xs) : SqT K H' a xs := by
  rcases h with (h | ⟨o, h⟩) | h
  · exact Or.inl (Or.inl (e _ _ h))
  · exact Or.inl (Or.inr ⟨o, e _ _ h⟩)
  · exact Or.inr h
/-- an item at a place drawn -/
theorem item_at {xs : List V} {r : Int} (h0 : 0 ≤ r) (h1 : r < (xs.length : Int)) : ∃ v, v ∈ xs ∧ atI xs r = some v := by
  obtain ⟨j, rfl⟩ := Int.eq_ofNat_of_zero_le h0
  have hj : j < xs.length := by omega
  exact ⟨xs[j], List.getElem_mem hj, atI_nat (List.getElem?_eq_getElem hj)⟩
theorem nil_or_last {α : Type} (l : List α) : l = [] ∨ ∃ ini z, l = ini ++ [z] := by
  cases l with
  | nil => exact .inl rfl
  | cons a r => exact .inr ⟨(a :: r).dropLast, (a :: r).getLast (by simp), (List.dropLast_concat_getLast (by simp)).symm⟩
/-- one statement and the rest, what is known between them said apart -/
theorem seqI {t1 t2 : TS} {D : Ends} {σ : L2.St} {H : Hp} (Ex : L2.St → Hp → Prop) (rest : ∀ σ' H', Ex σ' H' → t2 D σ' H')
    (first : ∀ Z : L2.St → Hp → Prop, (∀ σ' H', Ex σ' H' → Z σ' H') → t1 { D with nx := Z } σ H) : tSeq t1 t2 D σ H :=
  first _ rest
/-- a while by an invariant, a measure, and what is known at its end; what follows is asked apart -/
theorem whileI {c : TT} {tb : TS} {D : Ends} {σ : L2.St} {H : Hp} (I Ex : L2.St → Hp → Prop) (m : L2.St → Hp → Nat) (h0 : I σ H) (rest : ∀ σ H, Ex σ H → D.nx σ H)
    (step : ∀ σ H, I σ H → ∀ Y Z : Hp → Prop,
      (∀ H1, tb { D with nx := fun σ' H' => I σ' H' ∧ m σ' H' < m σ H, ct := fun σ' H' => I σ' H' ∧ m σ' H' < m σ H, bk := D.nx } σ H1 → Y H1) → (∀ H1, Ex σ H1 → Z H1) →
      c σ H fun b H1 => if b = true then Y H1 else Z H1) : tWhile c tb D σ H := by
  refine ⟨fun k σ H => k = m σ H ∧ I σ H, ⟨_, rfl, h0⟩, ?_⟩
  rintro k σ H ⟨rfl, hI⟩
  refine step σ H hI _ _ (fun H1 q => ?_) (fun H1 e => rest σ H1 e)
  exact ⟨_, fun σ' H' ⟨p', l⟩ => ⟨_, l, rfl, p'⟩, q⟩

/-- _law_any(deal, bound): some number below the bound; the deal is one again, all else is kept -/
def spAny : Sp := fun vs H Q _ => ∃ (d c : Addr) (bound : Int), vs = [.ref d, .int bound] ∧ Deal H d c ∧ 0 < bound ∧ bound < 2 ^ 300 ∧
  ∀ (r : Int) (H' : Hp), 0 ≤ r → r < bound → Deal H' d c → Same (off H d c) (off H' d c) → Q (.int r) H'
/-- _law_of(deal, some): some item of a list, of a tuple, or a sign of a text -/
def spOf (K : PySem.W.Frag) : Sp := fun vs H Q _ => ∃ (d c : Addr) (x : V), vs = [.ref d, x] ∧ Deal H d c ∧
  ((∃ (p : Addr) (xs : List V), x = .ref p ∧ SqL K (off H d c) p xs ∧ xs ≠ [] ∧ xs.length ≤ 1000 ∧ ∀ (v : V) (H' : Hp), v ∈ xs → Deal H' d c → Same (off H d c) (off H' d c) → Q v H') ∨
   (∃ (p : Addr) (xs : List V), x = .ref p ∧ SqT K (off H d c) p xs ∧ xs ≠ [] ∧ xs.length ≤ 1000 ∧ ∀ (v : V) (H' : Hp), v ∈ xs → Deal H' d c → Same (off H d c) (off H' d c) → Q v H') ∨
   (∃ z : Str, x = .str z ∧ 0 < z.length ∧ z.length ≤ 1000 ∧ ∀ (a : Nat) (H' : Hp), a ∈ z.cps.toList → Deal H' d c → Same (off H d c) (off H' d c) → Q (.str ⟨#[a]⟩) H'))
/-- _law_deal(script, base): a new deal -/
def spDeal (K : PySem.W.Frag) : Sp := fun vs H Q _ => ∃ (a : Addr) (ns : List Int) (b : Int), vs = [.ref a, .int b] ∧ SqL K H a (ns.map V.int) ∧ ns.length ≤ 63 ∧ 0 ≤ b ∧ b ≤ 1000 ∧
  ∀ (d c : Addr) (H' : Hp), H d = none → H c = none → Deal H' d c → Same H H' → Q (.ref d) H'
end Wb
set_option Elab.async false
set_option linter.all false
set_option maxRecDepth 100000
set_option maxHeartbeats 4000000
/-! Wb7: data that is all new; how large it is shown. -/
namespace Wb
open PySem PySem.Spec PyProof.Rows L2

/-- what stands in H' and was free in H -/
def nw (H H' : Hp) : Hp := fun b => if H b = none then H' b else none
theorem nw_at {H H' : Hp} {b : Addr} (h : H b = none) : nw H H' b = H' b := if_pos h
theorem nw_some {H H' : Hp} {b : Addr} {o : HO} (h : nw H H' b = some o) : H b = none ∧ H' b = some o := by
  unfold nw at h
  by_cases e : H b = none
  · rw [if_pos e] at h
    exact ⟨e, h⟩
  · rw [if_neg e] at h
    cases h
theorem nw_le (H H' : Hp) : Same (nw H H') H' := fun b o h => (nw_some h).2
/-- every address that is taken stays taken -/
def Dom (H H' : Hp) : Prop := ∀ b, H' b = none → H b = none
theorem Dom.refl (H : Hp) : Dom H H := fun _ h => h
theorem Dom.trans {H G J : Hp} (a : Dom H G) (b : Dom G J) : Dom H J := fun x h => a x (b x h)
theorem Dom.of {H H' : Hp} (s : Same H H') : Dom H H' := fun b h => s.free h
theorem Dom.deal {H H' : Hp} {d c : Addr} (s : Same (off H d c) (off H' d c)) (D : Deal H' d c) : Dom H H' := by
  intro b h
  obtain ⟨n1, n2⟩ := D.free h
  have q : off H' d c b = none := (off_at n1 n2).trans h
  have z := s.free q
  rwa [off_at n1 n2] at z
/-- new since later is new since earlier; and it is kept where all but the deal is -/
theorem nw_mono {H0 H G G' : Hp} {d c : Addr} (a : Dom H0 H) (D : Deal H d c) (s : Same (off G d c) (off G' d c)) : Same (nw H G) (nw H0 G') := by
  intro b o h
  obtain ⟨h1, h2⟩ := nw_some h
  obtain ⟨n1, n2⟩ := D.free h1
  rw [nw_at (a b h1)]
  have q := s b o (by rw [off_at n1 n2]; exact h2)
  exact (off_some q).1
theorem nw_off {H G : Hp} {d c : Addr} (D : Deal H d c) : Same (nw H G) (off G d c) := by
  intro b o h
  obtain ⟨h1, h2⟩ := nw_some h
  obtain ⟨n1, n2⟩ := D.free h1
  rw [off_at n1 n2]
  exact h2
theorem nw_upd {H G : Hp} {p : Addr} {o : HO} (h : H p ≠ none) : nw H (upd G p o) = nw H G := by
  funext b
  unfold nw
  by_cases e : H b = none
  · rw [if_pos e, if_pos e, upd_ne (fun z => h (by rw [← z]; exact e))]
  · rw [if_neg e, if_neg e]

mutual
theorem dpMono {K : PySem.W.Frag} {H H' : Hp} (s : Same H H') : ∀ (d : PyData) (v : V), Dp K H v d → Dp K H' v d
  | .none, _, h => by
    cases h
    exact .non
  | .bool b, _, h => by
    cases h
    exact .bl b
  | .int i, _, h => by
    cases h
    exact .int i
  | .str x, _, h => by
    cases h
    exact .str x
  | .list ds, _, h => by
    cases h with
    | lst h1 h2 => exact .lst (s.seq h1) (dpMonoAll s ds _ h2)
  | .tuple ds, _, h => by
    cases h with
    | tup h1 h2 => exact .tup (seqT s h1) (dpMonoAll s ds _ h2)
  | .dict _, _, h => by cases h
theorem dpMonoAll {K : PySem.W.Frag} {H H' : Hp} (s : Same H H') : ∀ (ds : List PyData) (vs : List V), DpAll K H vs ds → DpAll K H' vs ds
  | [], _, h => by
    cases h
    exact .nil
  | d :: ds, _, h => by
    cases h with
    | cons h1 h2 => exact .cons (dpMono s d _ h1) (dpMonoAll s ds _ h2)
end
theorem dpAll_snoc {K : PySem.W.Frag} {H : Hp} {v : V} {e : PyData} (h : Dp K H v e) : ∀ {vs : List V} {es : List PyData}, DpAll K H vs es → DpAll K H (vs ++ [v]) (es ++ [e])
  | _, _, .nil => .cons h .nil
  | _, _, .cons h1 h2 => .cons h1 (dpAll_snoc h h2)
theorem dpAll_len {K : PySem.W.Frag} {H : Hp} : ∀ {vs : List V} {es : List PyData}, DpAll K H vs es → vs.length = es.length
  | _, _, .nil => rfl
  | _, _, .cons _ h2 => by simp [dpAll_len h2]
theorem dpAll_mem {K : PySem.W.Frag} {H : Hp} : ∀ {vs : List V} {es : List PyData} {v : V}, DpAll K H vs es → v ∈ vs → ∃ e, e ∈ es ∧ Dp K H v e
  | _, _, _, .nil, h => nomatch h
  | _, _, v, .cons h1 h2, h => by
    rcases List.mem_cons.mp h with rfl | h
    · exact ⟨_, List.mem_cons_self, h1⟩
    · obtain ⟨e, q1, q2⟩ := dpAll_mem h2 h
      exact ⟨e, List.mem_cons_of_mem _ q1, q2⟩

/-- what may be shown: n deep, of a weight W -/
structure Tame (n W : Nat) (e : PyData) : Prop where
  shows : e.showable = true
  noDict : e.hasDict = false
  deep : e.depth ≤ n
  short : e.leavesShort 13 = true
  light : e.weight ≤ W
theorem Tame.fits {n W : Nat} {e : PyData} (t : Tame n W e) (h : W ≤ 1000000) : e.shown.length ≤ sizeLine := by
  have q := PyData.shown_le 13 (by decide) e t.short
  have l := t.light
  rw [sizeLine_eq]
  omega
theorem Tame.more {n m W Z : Nat} {e : PyData} (t : Tame n W e) (h1 : n ≤ m) (h2 : W ≤ Z) : Tame m Z e :=
  ⟨t.shows, t.noDict, Nat.le_trans t.deep h1, t.short, Nat.le_trans t.light h2⟩
structure TameAll (n W : Nat) (es : List PyData) : Prop where
  shows : PyData.showableAll es = true
  noDict : PyData.hasDictAll es = false
  deep : PyData.depthAll es ≤ n
  short : PyData.leavesShortAll 13 es = true
  light : PyData.weightAll es ≤ es.length * (W + 1)
theorem TameAll.nil {n W : Nat} : TameAll n W [] := ⟨by simp [PyData.showableAll], by simp [PyData.hasDictAll], by simp [PyData.depthAll], by simp [PyData.leavesShortAll], by simp [PyData.weightAll]⟩
theorem TameAll.cons {n W : Nat} {e : PyData} {es : List PyData} (t : Tame n W e) (h : TameAll n W es) : TameAll n W (e :: es) := by
  obtain ⟨a1, a2, a3, a4, a5⟩ := t
  obtain ⟨b1, b2, b3, b4, b5⟩ := h
  refine ⟨by simp [PyData.showableAll, a1, b1], by simp [PyData.hasDictAll, a2, b2], ?_, by simp [PyData.leavesShortAll, a4, b4], ?_⟩
  · simp only [PyData.depthAll]
    exact Nat.max_le.mpr ⟨a3, b3⟩
  · simp only [PyData.weightAll, List.length_cons, Nat.succ_mul]
    omega
theorem TameAll.of {n W : Nat} : ∀ {es : List PyData}, (∀ e ∈ es, Tame n W e) → TameAll n W es
  | [], _ => .nil
  | e :: es, h => .cons (h e List.mem_cons_self) (TameAll.of fun x hx => h x (List.mem_cons_of_mem _ hx))
theorem TameAll.list {n W k : Nat} {es : List PyData} (h : TameAll n W es) (few : es.length ≤ k) : Tame (n + 1) (k * (W + 1)) (.list es) := by
  obtain ⟨b1, b2, b3, b4, b5⟩ := h
  refine ⟨by simpa [PyData.showable] using b1, by simpa [PyData.hasDict] using b2, ?_, by simpa [PyData.leavesShort] using b4, ?_⟩
  · simp only [PyData.depth]
    omega
  · simp only [PyData.weight]
    exact Nat.le_trans b5 (Nat.mul_le_mul_right _ few)
theorem TameAll.tuple {n W k : Nat} {es : List PyData} (h : TameAll n W es) (few : es.length ≤ k) : Tame (n + 1) (k * (W + 1)) (.tuple es) := by
  obtain ⟨b1, b2, b3, b4, b5⟩ := h
  refine ⟨by simpa [PyData.showable] using b1, by simpa [PyData.hasDict] using b2, ?_, by simpa [PyData.leavesShort] using b4, ?_⟩
  · simp only [PyData.depth]
    omega
  · simp only [PyData.weight]
    exact Nat.le_trans b5 (Nat.mul_le_mul_right _ few)
theorem tame_none : Tame 0 40 .none := ⟨by decide +kernel, by decide +kernel, by decide +kernel, by decide +kernel, by decide +kernel⟩
theorem tame_bool (b : Bool) : Tame 0 40 (.bool b) := by cases b <;> exact ⟨by decide +kernel, by decide +kernel, by decide +kernel, by decide +kernel, by decide +kernel⟩
theorem log2_small {i : Int} (h : i.natAbs < 10 ^ 12) : i.natAbs.log2 ≤ 39 := by
  by_cases z : i.natAbs = 0
  · rw [z]
    decide
  · have := (Nat.log2_lt z (k := 40)).mpr (Nat.lt_trans h (by decide))
    omega
theorem tame_int {i : Int} (h : i.natAbs < 10 ^ 12) : Tame 0 40 (.int i) := by
  have l := log2_small h
  refine ⟨?_, by simp [PyData.hasDict], by simp [PyData.depth], ?_, ?_⟩
  · simp only [PyData.showable, decide_eq_true_eq]
    omega
  · simp only [PyData.leavesShort, decide_eq_true_eq]
    exact PyData.shown_int_le h
  · simp only [PyData.weight]
    split <;> omega
theorem tame_str {x : Str} (h : ∀ a ∈ x.cps.toList, a < 16 ^ 8) (few : x.length ≤ 40) : Tame 0 40 (.str x) := by
  refine ⟨by simp [PyData.showable], by simp [PyData.hasDict], by simp [PyData.depth], ?_, ?_⟩
  · simp only [PyData.leavesShort, List.all_eq_true, decide_eq_true_eq]
    exact h
  · simp only [PyData.weight]
    exact few

/-- signs glued -/
theorem glued (L : List Nat) : ∀ ys : List Str, (∀ y ∈ ys, ∃ a ∈ L, y = ⟨#[a]⟩) → (Str.join (Str.ofString "") ys).length = ys.length ∧ ∀ a ∈ (Str.join (Str.ofString "") ys).cps.toList, a ∈ L
  | [], _ => ⟨by decide, fun a ha => by
    have e : (Str.join (Str.ofString "") []).cps.toList = [] := by decide
    rw [e] at ha
    cases ha⟩
  | [y], h => by
    obtain ⟨a, ha, rfl⟩ := h y List.mem_cons_self
    refine ⟨rfl, fun b hb => ?_⟩
    have hb' : b ∈ [a] := hb
    rw [List.mem_singleton.mp hb']
    exact ha
  | y :: z :: r, h => by
    obtain ⟨a, ha, rfl⟩ := h y List.mem_cons_self
    obtain ⟨i1, i2⟩ := glued L (z :: r) fun x hx => h x (List.mem_cons_of_mem _ hx)
    have e : Str.join (Str.ofString "") (⟨#[a]⟩ :: z :: r) = (⟨#[a]⟩ ++ Str.ofString "") ++ Str.join (Str.ofString "") (z :: r) := rfl
    rw [e]
    refine ⟨?_, fun b hb => ?_⟩
    · rw [strLen_append, strLen_append, i1]
      have e1 : (Str.ofString "").length = 0 := by decide
      have e2 : (⟨#[a]⟩ : Str).length = 1 := rfl
      rw [e1, e2]
      simp
      omega
    · rw [cps_toList_append, cps_toList_append] at hb
      have e1 : (Str.ofString "").cps.toList = [] := by decide
      rw [e1, List.append_nil] at hb
      rcases List.mem_append.mp hb with q | q
      · have q' : b ∈ [a] := q
        rw [List.mem_singleton.mp q']
        exact ha
      · exact i2 b q
end Wb
set_option Elab.async false
set_option linter.all false
set_option maxRecDepth 100000
set_option maxHeartbeats 4000000
namespace K00
open PySem PySem.Spec PyProof.Rows L2 Wb
def topS (i : Nat) : Stmt := PySem.Challenge.pw_whyblank_k00_errors_and_what_they_keep.main.body.getD i (.Pass ⟨0, 0, 0, 0⟩)
abbrev sDeal : Stmt := topS 16
abbrev sAny : Stmt := topS 17
abbrev sOf : Stmt := topS 18

theorem ints_dp {K : PySem.W.Frag} {H : Hp} : ∀ cs : List Int, DpAll K H (cs.map V.int) (cs.map PyData.int)
  | [] => .nil
  | z :: cs => .cons (.int z) (ints_dp cs)
theorem ints_lay : ∀ cs : List Int, PyData.canLayAll0 (cs.map PyData.int) = true
  | [] => by simp [PyData.canLayAll0]
  | z :: cs => by simp [PyData.canLayAll0, PyData.canLay0, ints_lay cs]
theorem ints_depth : ∀ cs : List Int, PyData.depthAll (cs.map PyData.int) = 0
  | [] => by simp [PyData.depthAll]
  | z :: cs => by simp [PyData.depthAll, PyData.depth, ints_depth cs]
theorem ints_shaped (cs : List Int) : SeqAt.shaped (.list (cs.map PyData.int)) = true := by
  show (PyData.canLay0 (.list (cs.map PyData.int)) && decide (PyData.depth (.list (cs.map PyData.int)) ≤ 64)) = true
  rw [Bool.and_eq_true]
  refine ⟨by simp only [PyData.canLay0]; exact ints_lay cs, decide_eq_true ?_⟩
  simp only [PyData.depth, ints_depth]
  omega
theorem ints_eqv (cs : List Int) : PyData.eqv (.list (cs.map PyData.int)) (.list []) = cs.isEmpty := by
  cases cs with
  | nil => simp [PyData.eqv, PyData.eqvAll]
  | cons z r => simp [PyData.eqv, PyData.eqvAll]

section
variable {P : Program} {w : World} {K : PySem.W.Frag} {mg : Str → Option Value} {base : Heap}
theorem scAny : FnScope ["deal", "bound", "rest"] ["deal", "bound"] (defScope sAny) := ⟨rfl, rfl, rfl, by decide +kernel, rfl, by decide +kernel, by decide +kernel⟩

/-- how many cells are left -/
def left (c : Addr) (H : Hp) : Nat := match H c with
  | some (.lst xs) => xs.length
  | _ => 0

theorem ok_any {f : Addr} {fd : FuncData} (F : Fun K "_law_any" "_law_any" sAny f fd) (noInt : mg "int" = none) : FnOk P w K mg base CX0 1 f fd ["deal", "bound"] spAny := by
  refine F.ok scAny (fun vs H Q E h => ?_) (fun cdv A outer s H vs Q E hr h => ?_)
  · obtain ⟨d, c, bound, rfl, _⟩ := h
    rfl
  obtain ⟨d, c, bound, rfl, D, b0, b1, k⟩ := h
  refine ⟨_, pss_cons (ps_while PassesOwn.never (PW.pt (pw_and (pt_cmpR (op_neD hr.units) (pe_ix ix_list (pv 0) pe_int (fun _ _ => rfl)) (pe_lst pa_nil) (nomark _))
        (pw_and1 (pt_cmpR op_eq (pe_ix ix_list (pe_ix ix_list (pv 0) pe_int (fun _ _ => rfl)) (pe_un un_neg pe_int) (fun _ _ => rfl)) pe_int (nomark _)))))
      (pss_one (ps_expr (pe_bm0 PySem.F.plainAttrs_list PySem.F.slot_list_pop PySem.F.type_list_pop mt_pop (pe_ix ix_list (pv 0) pe_int (fun _ _ => rfl))))))
    (pss_cons (ps_if (pt_cmpR (op_neD hr.units) (pe_ix ix_list (pv 0) pe_int (fun _ _ => rfl)) (pe_lst pa_nil) (nomark _))
      (pss_cons (ps_set (i := 2) scAny.nd rfl (Or.inl rfl) (pe_callTy call_int1 (by rfl) noInt (by decide +kernel) (pa_cons (pe_bm0 PySem.F.plainAttrs_list PySem.F.slot_list_pop PySem.F.type_list_pop mt_pop (pe_ix ix_list (pv 0) pe_int (fun _ _ => rfl))) pa_nil)))
      (pss_cons (ps_expr (pe_bm PySem.F.plainAttrs_list PySem.F.slot_list_append PySem.F.type_list_append mt_append (pe_ix ix_list (pv 0) pe_int (fun _ _ => rfl)) (pa_cons (pe_op op_fdivW (pv 2) (pv 1)) pa_nil)))
      (pss_one (ps_ret (pe_op op_mod (pv 2) (pv 1)))))) pss_nil)
    (pss_cons (ps_asg (pe_op op_mod (pe_callTy call_int1 (by rfl) noInt (by decide +kernel) (pa_cons (pe_op op_add (pe_op op_mul (pe_ix ix_list (pv 0) pe_int (fun _ _ => rfl)) pe_int) pe_int) pa_nil)) pe_int) (pg_sub (pv 0) pe_int set_list))
    (pss_one (ps_ret (pe_op op_mod (pe_callTy call_int1 (by rfl) noInt (by decide +kernel) (pa_cons (pe_op op_fdiv (pe_ix ix_list (pv 0) pe_int (fun _ _ => rfl)) pe_int) pa_nil)) (pv 1))))))  , ?_⟩
  -- the cells that are 0 go
  refine whileI (fun σ H' => σ = [some (.ref d), some (.int bound), none] ∧ Deal H' d c ∧ Same (off H d c) (off H' d c))
    (fun σ H' => σ = [some (.ref d), some (.int bound), none] ∧ Deal H' d c ∧ Same (off H d c) (off H' d c)) (fun _ H' => left c H') ⟨rfl, D, Same.refl _⟩ ?_ ?_
  · -- behind it
    rintro σ G ⟨rfl, D', S'⟩
    obtain ⟨cs, mix, h1, h2, short, nn, m0, m1⟩ := D'.ex
    refine ⟨_, rfl, d, [.ref c, .int mix], 0, .ref c, rfl, rfl, SqL.of h1, rfl, ?_⟩
    refine ⟨Nat.zero_le _, fun l hl => ?_⟩
    have Sl : Same G (upd G l (.lst [])) := new_same hl
    have D2 : Deal (upd G l (.lst [])) d c := D'.same Sl
    have S2 : Same (off H d c) (off (upd G l (.lst [])) d c) := S'.trans (off_mono Sl)
    have h1' := Sl _ _ h1
    have h2' := Sl _ _ h2
    have ne := D'.ne
    refine ⟨.list (cs.map PyData.int), .list [], .lst (SqL.of h2') (ints_dp cs), .lst (SqL.of upd_same) .nil, ints_shaped cs, rfl, _, rfl, ?_⟩
    rw [ints_eqv]
    generalize upd G l (.lst []) = G2 at *
    rcases nil_or_last cs with rfl | ⟨ini, z, rfl⟩
    · -- no cell: the number goes on
      refine iteF ?_
      refine ⟨_, rfl, d, [.ref c, .int mix], 1, .int mix, rfl, rfl, SqL.of h1', rfl, ?_⟩
      refine ⟨_, _, rfl, rfl, .inl ⟨by omega, by omega⟩, _, _, rfl, rfl, .inl ⟨_, rfl, ?_⟩⟩
      refine ⟨_, _, rfl, rfl, (by show (0 : Int) < 2147483647; decide), ?_⟩
      refine ⟨_, rfl, d, [.ref c, .int mix], 1, 1, rfl, rfl, h1', rfl, ?_⟩
      obtain ⟨mix2, hm⟩ : ∃ mix2, mix2 = (mix * 48271 + 83) % 2147483647 := ⟨_, rfl⟩
      have at2 : upd G2 d (.lst ([V.ref c, V.int mix].set 1 (V.int ((mix * 48271 + 83) % 2147483647)))) d = some (.lst [.ref c, .int mix2]) := by
        rw [upd_same, hm]
        rfl
      have q0 : 0 ≤ mix2 := by omega
      have q1 : mix2 < 2147483647 := by omega
      refine ⟨_, rfl, d, [.ref c, .int mix2], 1, .int mix2, rfl, rfl, SqL.of at2, rfl, ?_⟩
      refine ⟨_, _, rfl, rfl, ⟨by decide, by decide⟩, .inl ⟨_, rfl, ?_⟩⟩
      refine ⟨_, rfl, _, _, rfl, rfl, b0, ?_⟩
      refine k _ _ (Int.emod_nonneg _ (by omega)) (Int.emod_lt_of_pos _ b0) ⟨[], mix2, at2, ?_, short, nn, q0, q1⟩ ?_
      · show upd G2 d _ c = _
        rw [upd_ne ne.symm]
        exact h2'
      · show Same _ (off (upd G2 d _) d c)
        rw [off_d]
        exact S2
    · -- a cell
      have e : (ini ++ [z]).isEmpty = false := by simp
      rw [e]
      refine iteT ?_
      have em : (ini ++ [z]).map V.int = ini.map V.int ++ [V.int z] := by simp
      rw [em] at h2'
      have z0 : 0 ≤ z := nn z (by simp)
      refine ⟨_, rfl, d, [.ref c, .int mix], 0, .ref c, rfl, rfl, SqL.of h1', rfl, .inl ⟨rfl, _, SqL.of h2'⟩, c, _, .int z, rfl, rfl, h2', by simp, .inl ⟨_, rfl, ?_⟩⟩
      rw [List.dropLast_concat]
      refine ⟨_, rfl, d, [.ref c, .int mix], 0, .ref c, rfl, rfl, SqL.of ((upd_ne ne).trans h1'), rfl, .inl ⟨rfl, _, SqL.of upd_same⟩, ?_⟩
      refine ⟨_, rfl, _, rfl, _, _, rfl, rfl, ?_, c, _, _, rfl, rfl, upd_same, ?_, ?_⟩
      · exact wide_div b0 (b := 300) (by omega) (by decide) (by decide)
      · rw [List.length_map, sizeLine_eq]
        simp at short
        omega
      refine ⟨_, rfl, _, rfl, _, _, rfl, rfl, b0, ?_⟩
      refine k _ _ (Int.emod_nonneg _ (by omega)) (Int.emod_lt_of_pos _ b0) ⟨ini ++ [z / bound], mix, ?_, ?_, ?_, ?_, m0, m1⟩ ?_
      · rw [upd_ne ne, upd_ne ne]
        exact h1'
      · rw [upd_same]
        simp
      · simpa using short
      · intro y hy
        rcases List.mem_append.mp hy with h | h
        · exact nn y (List.mem_append_left _ h)
        · simp at h
          rw [h]
          exact Int.ediv_nonneg z0 (by omega)
      · rw [off_c, off_c]
        exact S2
  · -- a turn
    rintro σ H' ⟨rfl, D', S'⟩ Y Z hY hZ
    obtain ⟨cs, mix, h1, h2, short, nn, m0, m1⟩ := D'.ex
    refine ⟨_, rfl, d, [.ref c, .int mix], 0, .ref c, rfl, rfl, SqL.of h1, rfl, ?_⟩
    refine ⟨Nat.zero_le _, fun l hl => ?_⟩
    have Sl : Same H' (upd H' l (.lst [])) := new_same hl
    have D2 : Deal (upd H' l (.lst [])) d c := D'.same Sl
    have S2 : Same (off H d c) (off (upd H' l (.lst [])) d c) := S'.trans (off_mono Sl)
    have h1' := Sl _ _ h1
    have h2' := Sl _ _ h2
    have len2 : left c H' = cs.length := by
      unfold left
      rw [h2]
      simp
    refine ⟨.list (cs.map PyData.int), .list [], .lst (SqL.of h2') (ints_dp cs), .lst (SqL.of upd_same) .nil, ints_shaped cs, rfl, _, rfl, ?_⟩
    rw [ints_eqv]
    generalize upd H' l (.lst []) = G at *
    rcases nil_or_last cs with rfl | ⟨ini, z, rfl⟩
    · refine iteF (iteF ?_)
      exact hZ _ ⟨rfl, D2, S2⟩
    · have e : (ini ++ [z]).isEmpty = false := by simp
      rw [e]
      refine iteT ?_
      have em : (ini ++ [z]).map V.int = ini.map V.int ++ [V.int z] := by simp
      rw [em] at h2'
      refine ⟨_, rfl, d, [.ref c, .int mix], 0, .ref c, rfl, rfl, SqL.of h1', rfl, 1, rfl, c, ini.map V.int ++ [V.int z], -1, .int z, rfl, rfl, SqL.of h2', atI_last _ _, rfl, _, rfl, ?_⟩
      refine ite2 (fun hz => ?_) (fun hz => ?_)
      · refine hY _ ?_
        refine ⟨_, rfl, d, [.ref c, .int mix], 0, .ref c, rfl, rfl, SqL.of h1', rfl, .inl ⟨rfl, _, SqL.of h2'⟩, c, _, .int z, rfl, rfl, h2', by simp, ?_⟩
        have ne := D2.ne
        refine ⟨⟨rfl, ⟨ini, mix, ?_, ?_, ?_, fun y hy => nn y (List.mem_append_left _ hy), m0, m1⟩, ?_⟩, ?_⟩
        · rw [upd_ne ne]
          exact h1'
        · rw [upd_same, List.dropLast_concat]
        · simp at short
          omega
        · rw [off_c]
          exact S2
        · rw [len2]
          unfold left
          rw [upd_same, List.dropLast_concat]
          simp
      · exact hZ _ ⟨rfl, D2, S2⟩
end
end K00
set_option Elab.async false
set_option linter.all false
set_option maxRecDepth 100000
set_option maxHeartbeats 4000000
namespace K00
open PySem PySem.Spec PyProof.Rows L2 Wb
section
variable {P : Program} {w : World} {K : PySem.W.Frag} {mg : Str → Option Value} {base : Heap}
theorem scOf : FnScope ["deal", "some"] ["deal", "some"] (defScope sOf) := ⟨rfl, rfl, rfl, by decide +kernel, rfl, by decide +kernel, by decide +kernel⟩
theorem ok_of {f fA : Addr} {fd fdA : FuncData} (F : Fun K "_law_of" "_law_of" sOf f fd) (GA : FnOk P w K mg base CX0 1 fA fdA ["deal", "bound"] spAny) (mA : mg "_law_any" = some (.ref fA)) (kA : PySem.W.keepIn K (.ref fA) = true) (bA : Binds K fdA ["deal", "bound"] [])
    (noLen : mg "len" = none) : FnOk P w K mg base CX0 2 f fd ["deal", "some"] (spOf K) := by
  refine F.ok scOf (fun vs H Q E h => ?_) (fun cdv A outer s H vs Q E hr h => ?_)
  · obtain ⟨d, c, x, rfl, _⟩ := h
    rfl
  obtain ⟨d, c, x, rfl, D, k⟩ := h
  refine ⟨_, pss_one (ps_ret (pe_ix ix_seq (pv 1) (pe_call GA hr rfl mA kA bA .nil pass0 (pa_cons (pv 0) (pa_cons (pe_callB call_len (by rfl) noLen (by decide +kernel) (pa_cons (pv 1) pa_nil)) pa_nil))) (fun _ _ => rfl))), ?_⟩
  rcases k with ⟨p, xs, rfl, hs, ne, few, k⟩ | ⟨p, xs, rfl, hs, ne, few, k⟩ | ⟨z, rfl, ne, few, k⟩
  · have pos : 0 < xs.length := List.length_pos_iff.mpr ne
    refine ⟨_, rfl, _, rfl, _, rfl, _, xs.length, rfl, .inl ⟨xs, (off_le H d c).seq hs, rfl⟩, d, c, xs.length, rfl, D, by omega, by omega, fun r H' r0 r1 D' S' => ?_⟩
    obtain ⟨v, hv, at_⟩ := item_at r0 r1
    exact .inl ⟨p, xs, r, v, rfl, rfl, (off_le H' d c).seq (S'.seq hs), at_, k v H' hv D' S'⟩
  · have pos : 0 < xs.length := List.length_pos_iff.mpr ne
    refine ⟨_, rfl, _, rfl, _, rfl, _, xs.length, rfl, .inr ⟨xs, seqT (off_le H d c) hs, rfl⟩, d, c, xs.length, rfl, D, by omega, by omega, fun r H' r0 r1 D' S' => ?_⟩
    obtain ⟨v, hv, at_⟩ := item_at r0 r1
    exact .inr (.inl ⟨p, xs, r, v, rfl, rfl, seqT (off_le H' d c) (seqT S' hs), at_, k v H' hv D' S'⟩)
  · have line := sizeLine_eq
    refine ⟨_, rfl, _, rfl, _, rfl, _, z.length, rfl, ⟨by omega, rfl⟩, d, c, z.length, rfl, D, by omega, by omega, fun r H' r0 r1 D' S' => ?_⟩
    obtain ⟨j, rfl⟩ := Int.eq_ofNat_of_zero_le r0
    have hj : j < z.cps.toList.length := by
      have e : z.cps.toList.length = z.length := by simp [Str.length]
      omega
    exact .inr (.inr ⟨z, (j : Int), z.cps.toList[j], rfl, rfl, by omega, atI_nat (List.getElem?_eq_getElem hj), k _ H' (List.getElem_mem hj) D' S'⟩)

theorem scDeal : FnScope ["script", "base", "cells", "mix", "cell"] ["script", "base"] (defScope sDeal) := ⟨rfl, rfl, rfl, by decide +kernel, rfl, by decide +kernel, by decide +kernel⟩
theorem ok_deal {f : Addr} {fd : FuncData} (F : Fun K "_law_deal" "_law_deal" sDeal f fd) (noInt : mg "int" = none) (noAbs : mg "abs" = none) : FnOk P w K mg base CX0 1 f fd ["script", "base"] (spDeal K) := by
  refine F.ok scDeal (fun vs H Q E h => ?_) (fun cdv A outer s H vs Q E hr h => ?_)
  · obtain ⟨a, ns, b, rfl, _⟩ := h
    rfl
  obtain ⟨a, ns, b, rfl, hs, few, b0, b1, k⟩ := h
  refine ⟨_, pss_cons (ps_setLc (i := 2) (own := [("cell", 4)]) (g := gName 4) (tt := tYes) rfl scDeal.nd rfl rfl (sw_true rfl rfl rfl (by decide +kernel)) (pi_list (pe_slice sl_list (pv 0) po_none (po_some pe_int)))
      (blkOk_by (own := [("cell", 4)]) (N := ["script", "base", "cells", "mix", "cell"]) (sc := defScope sDeal) (by decide +kernel)) (fun _ _ _ _ _ => pg_name (i := 4) scDeal.nd rfl (Or.inl rfl)) (fun _ _ _ _ _ => pts_nil)
      (fun _ _ _ _ _ => pe_callB call_abs (by rfl) noAbs (by decide +kernel) (pa_cons (pe_callTy call_int1 (by rfl) noInt (by decide +kernel) (pa_cons (pv 4) pa_nil)) pa_nil)))
    (pss_cons (ps_set (i := 3) scDeal.nd rfl (Or.inl rfl) (pe_op op_add (pe_op op_mul pe_int (pv 1)) pe_int))
    (pss_cons (ps_for PassesOwn.never rfl (pi_list (pv 2)) (pg_name (i := 4) scDeal.nd rfl (Or.inl rfl))
      (pss_one (ps_set (i := 3) scDeal.nd rfl (Or.inl rfl) (pe_op op_mod (pe_callTy call_int1 (by rfl) noInt (by decide +kernel) (pa_cons (pe_op op_add (pe_op op_add (pe_op op_mul (pv 3) pe_int) (pe_op op_mod (pv 4) pe_int)) pe_int) pa_nil)) pe_int))))
    (pss_one (ps_ret (pe_lst (pa_cons (pe_revL (pe_lc (own := [("cell", 4)]) (g := gName 4) rfl scDeal.nd (pi_list (pv 2))
      (blkOk_by (own := [("cell", 4)]) (N := ["script", "base", "cells", "mix", "cell"]) (sc := defScope sDeal) (by decide +kernel)) (fun _ _ _ _ _ => pg_name (i := 4) scDeal.nd rfl (Or.inl rfl))
      (fun _ _ _ _ _ => pts_one (pt_cmpR op_ge (pv 4) (pe_op op_pow pe_int pe_int) (nomark _))) (fun _ _ _ _ _ => pv 4))) (pa_cons (pv 3) pa_nil))))))), ?_⟩
  -- the slice
  refine ⟨_, rfl, 63, rfl, a, ns.map V.int, rfl, hs, fun p hp => ?_⟩
  obtain ⟨ms, em, fewM⟩ : ∃ ms : List Int, cutV (ns.map V.int) none (some 63) = ms.map V.int ∧ ms.length ≤ 63 := by
    refine ⟨(ns.drop (HT.sIx (ns.map V.int).length 0 none)).take (HT.sIx (ns.map V.int).length (ns.map V.int).length (some 63) - HT.sIx (ns.map V.int).length 0 none), ?_, ?_⟩
    · unfold cutV
      rw [List.map_take, List.map_drop]
    · rw [List.length_take, List.length_drop]
      omega
  rw [em]
  have Sp : Same H (upd H p (.lst (ms.map V.int))) := new_same hp
  have atp : upd H p (.lst (ms.map V.int)) p = some (.lst (ms.map V.int)) := upd_same
  generalize upd H p (.lst (ms.map V.int)) = H1 at *
  refine ⟨p, rfl, ⟨_, SqL.of atp⟩, fun D hD => ?_⟩
  -- the cells
  refine lc_list (K := K) (a := p) (xs := ms.map V.int) (fun i G => ∃ acc : List Int, G D = some (.lst (acc.map V.int)) ∧ acc.length = i ∧ (∀ z ∈ acc, 0 ≤ z) ∧ Same H1 G)
    ⟨[], upd_same, rfl, (fun z hz => nomatch hz), new_same hD⟩ (fun i G _ ⟨_, _, _, _, sg⟩ => sg.seq (SqL.of atp)) ?_ ?_
  · rintro i x G hx ⟨acc, hG, hi, hnn, sg⟩
    have hi' : i < ms.length := by
      have := (List.getElem?_eq_some_iff.mp hx).1
      simpa using this
    obtain ⟨z, rfl⟩ : ∃ z, x = V.int z := by
      rw [List.getElem?_map] at hx
      obtain ⟨z, _, e⟩ := Option.map_eq_some_iff.mp hx
      exact ⟨z, e.symm⟩
    refine ⟨rfl, ?_⟩
    refine ⟨_, rfl, .inl ⟨z, rfl, z, rfl, acc.map V.int, hG, ?_, acc ++ [if z < 0 then -z else z], ?_, ?_, ?_, ?_⟩⟩
    · rw [List.length_map, sizeLine_eq]
      omega
    · rw [upd_same]
      simp
    · simp [hi]
    · intro y hy
      rcases List.mem_append.mp hy with q | q
      · exact hnn y q
      · simp at q
        rw [q]
        split <;> omega
    · intro b' o e
      rw [upd_ne (ne_of_none e hD)]
      exact sg b' o e
  rintro G ⟨acc, hG, hi, hnn, sg⟩
  rw [List.length_map] at hi
  -- the first number
  refine ⟨_, rfl, _, _, rfl, rfl, .inl ⟨by omega, by omega⟩, _, _, rfl, rfl, ?_⟩
  refine ⟨_, rfl, D, rfl, ⟨_, SqL.of hG⟩, for_list (K := K) (a := D) (xs := acc.map V.int) (fun i σ G' => ∃ (mix : Int) (v : Option V), σ = [some (.ref a), some (.int b), some (.ref D), some (.int mix), v] ∧ 0 ≤ mix ∧ mix < 2147483647 ∧ G' = G)
    ⟨_, none, rfl, by omega, by omega, rfl⟩ (fun i σ G' _ ⟨_, _, _, _, _, e⟩ => by rw [e]; exact SqL.of hG) ?_ ?_⟩
  · rintro i y σ G' hy ⟨mix, v, rfl, q0, q1, rfl⟩
    obtain ⟨z, rfl⟩ : ∃ z, y = V.int z := by
      rw [List.getElem?_map] at hy
      obtain ⟨z, _, e⟩ := Option.map_eq_some_iff.mp hy
      exact ⟨z, e.symm⟩
    refine ⟨_, rfl, _, _, rfl, rfl, .inl ⟨by omega, by omega⟩, _, rfl, _, _, rfl, rfl, (by show (0 : Int) < 2147483579; decide), _, _, rfl, rfl, _, _, rfl, rfl, .inl ⟨_, rfl, ?_⟩⟩
    refine ⟨_, _, rfl, rfl, (by show (0 : Int) < 2147483647; decide), ?_⟩
    exact ⟨_, _, rfl, Int.emod_nonneg _ (by decide), Int.emod_lt_of_pos _ (by decide), rfl⟩
  rintro σ G' ⟨mix, v, rfl, q0, q1, rfl⟩
  -- the great cells, turned
  refine ⟨_, rfl, D, rfl, ⟨_, SqL.of hG⟩, fun D2 hD2 => ?_⟩
  refine lc_list (K := K) (a := D) (xs := acc.map V.int) (fun i G2 => ∃ big : List Int, G2 D2 = some (.lst (big.map V.int)) ∧ big.length ≤ i ∧ (∀ z ∈ big, 0 ≤ z) ∧ Same G' G2)
    ⟨[], upd_same, Nat.le_refl _, (fun z hz => nomatch hz), new_same hD2⟩ (fun i G2 _ ⟨_, _, _, _, s2⟩ => s2.seq (SqL.of hG)) ?_ ?_
  · rintro i x G2 hx ⟨big, hB, hl, hbn, s2⟩
    have hx2 := hx
    have hi' : i < acc.length := by
      have := (List.getElem?_eq_some_iff.mp hx).1
      simpa using this
    obtain ⟨z, hz, rfl⟩ : ∃ z, z ∈ acc ∧ x = V.int z := by
      rw [List.getElem?_map] at hx
      obtain ⟨z, hz, e⟩ := Option.map_eq_some_iff.mp hx
      exact ⟨z, List.mem_of_getElem? hz, e.symm⟩
    refine ⟨rfl, _, rfl, _, _, rfl, rfl, ⟨by decide, by decide, by decide⟩, _, _, rfl, rfl, _, rfl, ?_⟩
    refine ite2 (fun _ => ?_) (fun _ => ?_)
    · refine ⟨_, rfl, big.map V.int, hB, ?_, big ++ [z], ?_, ?_, ?_, ?_⟩
      · rw [List.length_map, sizeLine_eq]
        omega
      · rw [upd_same]
        simp
      · simp
        omega
      · intro y hy
        rcases List.mem_append.mp hy with q | q
        · exact hbn y q
        · simp at q
          rw [q]
          exact hnn z hz
      · intro b' o e
        rw [upd_ne (ne_of_none e hD2)]
        exact s2 b' o e
    · exact ⟨big, hB, by omega, hbn, s2⟩
  rintro G2 ⟨big, hB, hl, hbn, s2⟩
  rw [List.length_map] at hl
  refine ⟨D2, _, rfl, SqL.of hB, fun c hc => ?_⟩
  have Sc : Same G2 (upd G2 c (.lst (big.map V.int).reverse)) := new_same hc
  have atc : upd G2 c (.lst (big.map V.int).reverse) c = some (.lst (big.reverse.map V.int)) := by rw [upd_same, List.map_reverse]
  generalize upd G2 c (.lst (big.map V.int).reverse) = G3 at *
  refine ⟨_, rfl, (by show 2 ≤ sizeLine; decide), fun d hd => ?_⟩
  have S3 : Same H G3 := ((Sp.trans sg).trans s2).trans Sc
  have S4 : Same G3 (upd G3 d (.lst [.ref c, .int mix])) := new_same hd
  refine k d c _ (S3.free hd) (((Sp.trans sg).trans s2).free hc) ⟨big.reverse, mix, upd_same, S4 _ _ atc, ?_, ?_, q0, q1⟩ (S3.trans S4)
  · simp
    omega
  · intro z hz
    exact hbn z (List.mem_reverse.mp hz)
end
end K00
set_option Elab.async false
set_option linter.all false
set_option maxRecDepth 100000
set_option maxHeartbeats 4000000
namespace K00
open PySem PySem.Spec PyProof.Rows L2 Wb
abbrev sThing : Stmt := topS 19
/-- the weight of what is n deep -/
def wt : Nat → Nat
  | 0 => 40
  | n + 1 => 3 * (wt n + 1)
/-- _law_thing(deal, depth): some data, all new -/
def spThing (K : PySem.W.Frag) (n : Nat) : Sp := fun vs H Q _ => ∃ d c : Addr, vs = [.ref d, .int n] ∧ Deal H d c ∧
  ∀ (v : V) (e : PyData) (H' : Hp), Dp K (nw H H') v e → Tame n (wt n) e → Deal H' d c → Same (off H d c) (off H' d c) → Q v H'
/-- the same for less depth -/
def spLess (K : PySem.W.Frag) (n : Nat) : Sp := fun vs H Q E => ∃ m, m < n ∧ spThing K m vs H Q E
section
variable {P : Program} {w : World} {K : PySem.W.Frag} {mg : Str → Option Value} {base : Heap}
theorem wt_le {m n : Nat} (h : m ≤ n) : wt m ≤ wt n := by
  induction n with
  | zero =>
    have e : m = 0 := by omega
    rw [e]
    exact Nat.le_refl _
  | succ n ih =>
    by_cases e : m = n + 1
    · rw [e]
      exact Nat.le_refl _
    · have q := ih (by omega)
      show wt m ≤ 3 * (wt n + 1)
      omega
theorem scThing : FnScope ["deal", "depth", "form", "parts", "number", "text", "turn"] ["deal", "depth"] (defScope sThing) := ⟨rfl, rfl, rfl, by decide +kernel, rfl, by decide +kernel, by decide +kernel⟩
theorem thing_step {n : Nat} {f fA fO : Addr} {fd fdA fdO : FuncData} (hn : n ≤ 3) (F : Fun K "_law_thing" "_law_thing" sThing f fd) (GA : FnOk P w K mg base CX0 1 fA fdA ["deal", "bound"] spAny) (mA : mg "_law_any" = some (.ref fA)) (kA : PySem.W.keepIn K (.ref fA) = true)
    (bA : Binds K fdA ["deal", "bound"] []) (GO : FnOk P w K mg base CX0 2 fO fdO ["deal", "some"] (spOf K)) (mO : mg "_law_of" = some (.ref fO)) (kO : PySem.W.keepIn K (.ref fO) = true) (bO : Binds K fdO ["deal", "some"] [])
    (GT : FnOk P w K mg base CX0 (n + 2) f fd ["deal", "depth"] (spLess K n)) (mT : mg "_law_thing" = some (.ref f)) (bT : Binds K fd ["deal", "depth"] []) (noRange : mg "range" = none) (noTuple : mg "tuple" = none) :
    FnOk P w K mg base CX0 (n + 2 + 1) f fd ["deal", "depth"] (spThing K n) := by
  refine F.ok scThing (fun vs H Q E h => ?_) (fun cdv A outer s H vs Q E hr h => ?_)
  · obtain ⟨d, c, rfl, _⟩ := h
    rfl
  obtain ⟨d, c, rfl, D, k⟩ := h
  have hrA : Room 1 _ := hr.mono (by omega)
  have hrO : Room 2 _ := hr.mono (by omega)
  refine ⟨_, pss_cons (ps_set (i := 2) scThing.nd rfl (Or.inl rfl) (pe_call GA hrA rfl mA kA bA .nil pass0 (pa_cons (pv 0) (pa_cons pe_int pa_nil))))
    (pss_cons (ps_if (PW.pt (pw_and (pt_cmpR op_lt (pv 2) pe_int (nomark _)) (pw_and1 (pt_cmpR op_gt (pv 1) pe_int (nomark _)))))
      (pss_cons (ps_setLc (i := 3) (own := [("turn", 6)]) (g := gName 6) (tt := tYes) rfl scThing.nd rfl rfl (sw_true rfl rfl rfl (by decide +kernel)) (pi_range1 rfl noRange (pa_cons (pe_call GA hrA rfl mA kA bA .nil pass0 (pa_cons (pv 0) (pa_cons pe_int pa_nil))) pa_nil))
          (blkOk_by (own := [("turn", 6)]) (N := ["deal", "depth", "form", "parts", "number", "text", "turn"]) (sc := defScope sThing) (by decide +kernel)) (fun _ _ _ _ _ => pg_name (i := 6) scThing.nd rfl (Or.inl rfl)) (fun _ _ _ _ _ => pts_nil)
          (fun _ _ _ _ _ => pe_call GT hr rfl mT F.kp bT .nil pass0 (pa_cons (pv 0) (pa_cons (pe_op op_sub (pv 1) pe_int) pa_nil))))
      (pss_one (ps_ret (pe_ifExp (pt_cmpR op_eq (pv 2) pe_int (nomark _)) (pv 3) (pe_callTy call_tuple_of (by rfl) noTuple (by decide +kernel) (pa_cons (pv 3) pa_nil)))))) pss_nil)
    (pss_cons (ps_set (i := 4) scThing.nd rfl (Or.inl rfl) (pe_call GO hrO rfl mO kO bO .nil pass0 (pa_cons (pv 0) (pa_cons (pe_lst (pa_cons pe_int (pa_cons pe_int (pa_cons pe_int (pa_cons pe_int
        (pa_cons (pe_call GA hrA rfl mA kA bA .nil pass0 (pa_cons (pv 0) (pa_cons (pe_op op_pow pe_int pe_int) pa_nil))) pa_nil)))))) pa_nil))))
    (pss_cons (ps_set (i := 5) scThing.nd rfl (Or.inl rfl) (pe_join pe_str (pe_lc (own := [("turn", 6)]) (g := gName 6) (tt := tYes) rfl scThing.nd (pi_range1 rfl noRange (pa_cons (pe_call GA hrA rfl mA kA bA .nil pass0 (pa_cons (pv 0) (pa_cons pe_int pa_nil))) pa_nil))
          (blkOk_by (own := [("turn", 6)]) (N := ["deal", "depth", "form", "parts", "number", "text", "turn"]) (sc := defScope sThing) (by decide +kernel)) (fun _ _ _ _ _ => pg_name (i := 6) scThing.nd rfl (Or.inl rfl)) (fun _ _ _ _ _ => pts_nil)
          (fun _ _ _ _ _ => pe_call GO hrO rfl mO kO bO .nil pass0 (pa_cons (pv 0) (pa_cons pe_str pa_nil))))))
    (pss_one (ps_ret (pe_call GO hrO rfl mO kO bO .nil pass0 (pa_cons (pv 0) (pa_cons (pe_lst (pa_cons pe_non (pa_cons pe_bl (pa_cons pe_bl (pa_cons (pv 4) (pa_cons (pe_op op_sub pe_int (pv 4)) (pa_cons (pv 5) (pa_cons (pv 5) (pa_cons pe_str pa_nil))))))))) pa_nil)))))))), ?_⟩
  -- form
  refine ⟨_, rfl, d, c, 9, rfl, D, by decide, by decide, fun r H1 r0 r1 D1 S1 => ?_⟩
  dsimp only [gName]
  refine seqI (t1 := tIfS _ _ _) (fun σ' H' => σ' = [some (.ref d), some (.int n), some (.int r), none, none, none, none] ∧ Deal H' d c ∧ Same (off H d c) (off H' d c)) ?_ ?_
  · -- a leaf
    rintro σ' H2 ⟨rfl, D2, S2⟩
    refine ⟨_, rfl, _, rfl, _, _, rfl, rfl, ⟨by decide, by decide, by decide⟩, d, c, _, rfl, D2, by decide, by decide, fun r3 H3 q0 q1 D3 S3 => ?_⟩
    refine ⟨(by show 5 ≤ sizeLine; decide), fun p hp => ?_⟩
    have Sp := new_same (o := .lst [.int 0, .int 1, .int 2, .int 7, .int r3]) hp
    obtain ⟨p1, p2⟩ := D3.free hp
    refine ⟨d, c, .ref p, rfl, D3.same Sp, .inl ⟨p, _, rfl, SqL.of (off_new p1 p2), by simp, by simp, fun v H4 hv D4 S4 => ?_⟩⟩
    have small : ∃ z : Int, v = .int z ∧ 0 ≤ z ∧ z < 10 ^ 9 := by
      have q2 : r3 < 10 ^ 9 := q1
      simp only [List.mem_cons, List.not_mem_nil, or_false] at hv
      rcases hv with rfl | rfl | rfl | rfl | rfl
      · exact ⟨0, rfl, by decide, by decide⟩
      · exact ⟨1, rfl, by decide, by decide⟩
      · exact ⟨2, rfl, by decide, by decide⟩
      · exact ⟨7, rfl, by decide, by decide⟩
      · exact ⟨r3, rfl, q0, q2⟩
    obtain ⟨z, rfl, z0, z1⟩ := small
    have S4' : Same (off H d c) (off H4 d c) := ((S2.trans S3).trans (off_mono Sp)).trans S4
    clear hv S4
    -- the text
    refine ⟨⟨_, rfl⟩, ?_⟩
    refine ⟨_, rfl, d, c, 9, rfl, D4, by decide, by decide, fun r5 H5 t0 t1 D5 S5 => ⟨r5, rfl, by omega, by omega, fun L hL => ?_⟩⟩
    obtain ⟨l1, l2⟩ := D5.free hL
    refine lc_range (lo := 0) (n := r5.toNat) (fun i G => ∃ acc : List Str, G L = some (.lst (acc.map V.str)) ∧ acc.length = i ∧ (∀ y ∈ acc, ∃ a ∈ (Str.ofString "abcxyz ABZ09.,").cps.toList, y = ⟨#[a]⟩) ∧ Deal G d c ∧ Same (off H5 d c) (off G d c))
      ⟨[], upd_same, rfl, (fun y hy => nomatch hy), D5.same (new_same hL), off_mono (new_same hL)⟩ ?_ ?_
    · rintro i G hi ⟨acc, hG, hlen, hy, DG, SG⟩
      refine ⟨rfl, ?_⟩
      refine ⟨_, rfl, d, c, .str "abcxyz ABZ09.,", rfl, DG, .inr (.inr ⟨_, rfl, by decide, by decide, fun a G2 ha D6 S6 => ?_⟩)⟩
      have hG2 : G2 L = some (.lst (acc.map V.str)) := (off_some (S6 L _ (by rw [off_at l1 l2]; exact hG))).1
      refine ⟨acc.map V.str, hG2, ?_, acc ++ [⟨#[a]⟩], ?_, ?_, ?_, ?_, ?_⟩
      · rw [List.length_map, sizeLine_eq]
        omega
      · rw [upd_same]
        simp
      · simp [hlen]
      · intro y hy2
        rcases List.mem_append.mp hy2 with q | q
        · exact hy y q
        · exact ⟨a, ha, List.mem_singleton.mp q⟩
      · obtain ⟨cs, mix, h1, h2, h3⟩ := D6.ex
        exact ⟨cs, mix, by rw [upd_ne l1.symm]; exact h1, by rw [upd_ne l2.symm]; exact h2, h3⟩
      · intro b o e
        obtain ⟨e1, e2, e3⟩ := off_some e
        have ne : b ≠ L := ne_of_none e1 hL
        rw [off_at e2 e3, upd_ne ne]
        exact (off_some (S6 b o (by
          have q := SG b o e
          exact q))).1
    rintro G ⟨acc, hG, hlen, hy, DG, SG⟩
    have glue := glued (Str.ofString "abcxyz ABZ09.,").cps.toList acc hy
    have len8 : acc.length ≤ 8 := by omega
    have ones : ∀ ys : List Str, (∀ y ∈ ys, ∃ a ∈ (Str.ofString "abcxyz ABZ09.,").cps.toList, y = ⟨#[a]⟩) → (ys.map (·.length)).sum = ys.length := by
      intro ys
      induction ys with
      | nil => intro _; rfl
      | cons y r ih =>
        intro h
        obtain ⟨a, _, rfl⟩ := h y List.mem_cons_self
        have q := ih fun x hx => h x (List.mem_cons_of_mem _ hx)
        simp only [List.map_cons, List.sum_cons, List.length_cons, q]
        have e2 : (⟨#[a]⟩ : Str).length = 1 := rfl
        omega
    refine ⟨_, L, acc, rfl, rfl, .inl (SqL.of hG), ?_, ?_⟩
    · rw [ones acc hy]
      have e1 : (Str.ofString "").length = 0 := by decide
      show acc.length + acc.length * (Str.ofString "").length ≤ 16777216
      rw [e1]
      omega
    have tx : ∃ x : Str, Txt.join (Str.ofString "") acc = x ∧ x.length ≤ 8 ∧ ∀ a ∈ x.cps.toList, a < 16 ^ 8 := by
      refine ⟨_, rfl, ?_, ?_⟩
      · rw [TL.join_eq, glue.1]
        exact len8
      · intro a ha
        rw [TL.join_eq] at ha
        have q := glue.2 a ha
        have all : ∀ a ∈ (Str.ofString "abcxyz ABZ09.,").cps.toList, a < 16 ^ 8 := by decide
        exact all a q
    obtain ⟨x, ex, xl, xa⟩ := tx
    have ex' : Txt.join ("" : Str) acc = x := ex
    rw [ex']
    have SG' : Same (off H d c) (off G d c) := (S4'.trans S5).trans SG
    -- which it is
    refine ⟨_, rfl, _, rfl, _, rfl, _, _, rfl, rfl, _, rfl, _, rfl, (by show 8 ≤ sizeLine; decide), fun q hq => ?_⟩
    have Sq := new_same (o := .lst [.non, .bl true, .bl false, .int z, .int (0 - z), .str x, .str x, .str ""]) hq
    obtain ⟨g1, g2⟩ := DG.free hq
    refine ⟨d, c, .ref q, rfl, DG.same Sq, .inl ⟨q, _, rfl, SqL.of (off_new g1 g2), by simp, by simp, fun v H7 hv D7 S7 => ?_⟩⟩
    have leaf : ∃ e : PyData, (∀ J : Hp, Dp K J v e) ∧ Tame 0 40 e := by
      simp only [List.mem_cons, List.not_mem_nil, or_false] at hv
      rcases hv with rfl | rfl | rfl | rfl | rfl | rfl | rfl | rfl
      · exact ⟨.none, fun J => .non, tame_none⟩
      · exact ⟨.bool true, fun J => .bl _, tame_bool _⟩
      · exact ⟨.bool false, fun J => .bl _, tame_bool _⟩
      · exact ⟨.int z, fun J => .int _, tame_int (by omega)⟩
      · exact ⟨.int (0 - z), fun J => .int _, tame_int (by omega)⟩
      · exact ⟨.str x, fun J => .str _, tame_str xa (by omega)⟩
      · exact ⟨.str x, fun J => .str _, tame_str xa (by omega)⟩
      · exact ⟨.str "", fun J => .str _, tame_str (by decide) (by decide)⟩
    obtain ⟨e, he, te⟩ := leaf
    have w0 : wt 0 ≤ wt n := wt_le (Nat.zero_le n)
    exact k v e H7 (he _) (te.more (Nat.zero_le n) w0) D7 ((SG'.trans (off_mono Sq)).trans S7)
  · -- a list or a tuple
    intro Z hZ
    have out : ∀ σ' H', σ' = [some (.ref d), some (.int n), some (.int r), none, none, none, none] ∧ Deal H' d c ∧ Same (off H d c) (off H' d c) → Z σ' H' := hZ
    refine ⟨_, rfl, _, _, rfl, rfl, _, rfl, ?_⟩
    refine ite2 (fun _ => ?_) (fun _ => out _ _ ⟨rfl, D1, S1⟩)
    refine ⟨_, rfl, _, _, rfl, rfl, _, rfl, ?_⟩
    refine ite2 (fun deep => ?_) (fun _ => out _ _ ⟨rfl, D1, S1⟩)
    obtain ⟨m, rfl⟩ : ∃ m, n = m + 1 := by
      have q : (0 : Int) < n := of_decide_eq_true deep
      exact ⟨n - 1, by omega⟩
    refine ⟨_, rfl, d, c, 4, rfl, D1, by decide, by decide, fun r2 H2 t0 t1 D2 S2 => ⟨r2, rfl, by omega, by omega, fun L hL => ?_⟩⟩
    obtain ⟨l1, l2⟩ := D2.free hL
    have SL : Same H2 (upd H2 L (.lst [])) := new_same hL
    have atL : upd H2 L (.lst []) L ≠ none := by
      rw [upd_same]
      exact fun z => nomatch z
    have DL : Deal (upd H2 L (.lst [])) d c := D2.same SL
    refine lc_range (lo := 0) (n := r2.toNat) (fun i G => ∃ (acc : List V) (es : List PyData), G L = some (.lst acc) ∧ acc.length = i ∧ DpAll K (nw (upd H2 L (.lst [])) G) acc es ∧ (∀ e ∈ es, Tame m (wt m) e) ∧ Deal G d c ∧
        Same (off H2 d c) (off G d c) ∧ Dom (upd H2 L (.lst [])) G)
      ⟨[], [], upd_same, rfl, .nil, (fun e he => nomatch he), DL, off_mono SL, Dom.refl _⟩ ?_ ?_
    · rintro i G hi ⟨acc, es, hG, hlen, hdp, hta, DG, SG, dom⟩
      have e1 : (((m + 1 : Nat) : Int) - 1) = (m : Int) := by omega
      refine ⟨rfl, ?_⟩
      refine ⟨_, rfl, _, rfl, _, _, rfl, rfl, m, Nat.lt_succ_self m, d, c, congrArg (fun z => [V.ref d, V.int z]) e1, DG, fun v e G2 dv tv D3 S3 => ?_⟩
      have hG2 : G2 L = some (.lst acc) := (off_some (S3 L _ (by rw [off_at l1 l2]; exact hG))).1
      refine ⟨acc, hG2, ?_, acc ++ [v], es ++ [e], upd_same, by simp [hlen], ?_, ?_, ?_, ?_, ?_⟩
      · rw [sizeLine_eq]
        omega
      · rw [nw_upd atL]
        exact dpAll_snoc (dpMono (nw_mono dom DG (Same.refl _)) e v dv) (dpMonoAll (nw_mono (Dom.refl _) DL S3) es acc hdp)
      · intro x hx
        rcases List.mem_append.mp hx with q | q
        · exact hta x q
        · rw [List.mem_singleton.mp q]
          exact tv
      · obtain ⟨cs, mix, h1, h2, h3⟩ := D3.ex
        exact ⟨cs, mix, by rw [upd_ne l1.symm]; exact h1, by rw [upd_ne l2.symm]; exact h2, h3⟩
      · intro b o z
        obtain ⟨z1, z2, z3⟩ := off_some z
        rw [off_at z2 z3, upd_ne (ne_of_none z1 hL)]
        exact (off_some (S3 b o (SG b o z))).1
      · intro b hb
        by_cases e2 : b = L
        · rw [e2, upd_same] at hb
          cases hb
        · rw [upd_ne e2] at hb
          exact (dom.trans (Dom.deal S3 D3)) b hb
    rintro G ⟨acc, es, hG, hlen, hdp, hta, DG, SG, dom⟩
    have freeL : H L = none := (Dom.deal S1 D1) L ((Dom.deal S2 D2) L hL)
    have S' : Same (off H d c) (off G d c) := (S1.trans S2).trans SG
    have domH : Dom H (upd H2 L (.lst [])) := ((Dom.deal S1 D1).trans (Dom.deal S2 D2)).trans (Dom.of SL)
    have hdp' : DpAll K (nw H G) acc es := dpMonoAll (nw_mono domH DL (Same.refl _)) es acc hdp
    have few : es.length ≤ 3 := by
      have q := dpAll_len hdp
      omega
    have ta := TameAll.of hta
    refine ⟨_, rfl, rfl, _, rfl, ?_⟩
    refine ite2 (fun _ => ?_) (fun _ => ?_)
    · refine ⟨_, rfl, ?_⟩
      refine k (.ref L) (.list es) G (.lst (SqL.of ?_) hdp') (ta.list few) DG S'
      rw [nw_at freeL]
      exact hG
    · refine ⟨_, rfl, L, acc, rfl, .inl ⟨SqL.of hG, fun l hl => ?_⟩⟩
      have Sl : Same G (upd G l (.tup acc)) := new_same hl
      have freel : H l = none := (domH.trans dom) l hl
      refine k (.ref l) (.tuple es) _ (.tup (SqT.of ?_) (dpMonoAll ?_ es acc hdp')) (ta.tuple few) (DG.same Sl) (S'.trans (off_mono Sl))
      · rw [nw_at freel]
        exact upd_same
      · intro b o z
        obtain ⟨z1, z2⟩ := nw_some z
        rw [nw_at z1]
        exact Sl b o z2
end
end K00
set_option Elab.async false
set_option linter.all false
set_option maxRecDepth 100000
set_option maxHeartbeats 4000000
namespace K00
open PySem PySem.Spec PyProof.Rows L2 Wb
/-! The errors by their numbers in the law; 12 is the one without a field. -/
def nmOf : Nat → Str
  | 0 => "InvalidFraction" | 1 => "InvalidForm" | 2 => "InvalidBook" | 3 => "InvalidSheets" | 4 => "InvalidChart" | 5 => "InvalidMaker" | 6 => "InvalidWay" | 7 => "InvalidAsk" | 8 => "InvalidText"
  | 9 => "InvalidSize" | 10 => "Refused" | 11 => "NoName" | _ => "InvalidCommand"
def qualOf : Nat → Str
  | 0 => "InvalidFraction.__init__" | 1 => "InvalidForm.__init__" | 2 => "InvalidBook.__init__" | 3 => "InvalidSheets.__init__" | 4 => "InvalidChart.__init__" | 5 => "InvalidMaker.__init__" | 6 => "InvalidWay.__init__"
  | 7 => "InvalidAsk.__init__" | 8 => "InvalidText.__init__" | 9 => "InvalidSize.__init__" | 10 => "Refused.__init__" | 11 => "NoName.__init__" | _ => "InvalidCommand.__init__"
def stOf : Nat → Stmt
  | 0 => inClass (topS 2) 0 | 1 => inClass (topS 3) 0 | 2 => inClass (topS 4) 0 | 3 => inClass (topS 5) 0 | 4 => inClass (topS 6) 0 | 5 => inClass (topS 7) 0 | 6 => inClass (topS 8) 0 | 7 => inClass (topS 9) 0 | 8 => inClass (topS 10) 0
  | 9 => inClass (topS 11) 0 | 10 => inClass (topS 13) 0 | 11 => inClass (topS 14) 0 | _ => inClass (topS 12) 0
def fldOf : Nat → Str
  | 0 => "at" | 1 => "at" | 2 => "at" | 3 => "at" | 4 => "at" | 5 => "at" | 6 => "at" | 7 => "at" | 8 => "at" | 9 => "word" | 10 => "word" | _ => "name"
theorem upto {i : Nat} (h : i < 12) : i = 0 ∨ i = 1 ∨ i = 2 ∨ i = 3 ∨ i = 4 ∨ i = 5 ∨ i = 6 ∨ i = 7 ∨ i = 8 ∨ i = 9 ∨ i = 10 ∨ i = 11 := by omega
/-- what stands of the error with this number -/
structure Kit (K : PySem.W.Frag) (mg : Str → Option Value) (i : Nat) (C fI : Addr) (fd : FuncData) : Prop where
  T : ErrC K C
  mgC : mg (nmOf i) = some (.ref C)
  iC : PySem.W.findIn K (.ref C) "__init__" = some (some (.ref fI))
  tI : PySem.W.typeIn K (.ref fI) = some (.type "function")
  no : PySem.W.findIn K (.ref C) (fldOf i) = some none
  F : Fun K "__init__" (qualOf i) (stOf i) fI fd
  b : Binds K fd ["self", fldOf i] []
  kb : ∀ (s : Shared) (a v : Value), BindsTo s fd ⟨[a], [(fldOf i, v)]⟩ [("self", a), (fldOf i, v)]
/-- the one without a field -/
structure Kit0 (K : PySem.W.Frag) (mg : Str → Option Value) (C fI : Addr) (fd : FuncData) : Prop where
  T : ErrC K C
  mgC : mg "InvalidCommand" = some (.ref C)
  iC : PySem.W.findIn K (.ref C) "__init__" = some (some (.ref fI))
  tI : PySem.W.typeIn K (.ref fI) = some (.type "function")
  F : Fun K "__init__" "InvalidCommand.__init__" (stOf 12) fI fd
  b : ∀ (s : Shared) (v : Value), BindsTo s fd ⟨[v], []⟩ [("self", v)]
theorem sc12 : FnScope ["self"] ["self"] (defScope (stOf 12)) := ⟨rfl, rfl, rfl, by decide +kernel, rfl, by decide +kernel, by decide +kernel⟩
theorem body12 : ∃ pp, defBody (stOf 12) = [.Pass pp] := ⟨_, rfl⟩
theorem loc12 : (defScope (stOf 12)).names.lookup ("self" : Str) = some NameKind.local := rfl
theorem int_eq {i j : Int} (h : decide (V.int i = V.int j) = true) : i = j := V.int.inj (of_decide_eq_true h)
theorem int_ne {i j : Int} (h : ¬ decide (V.int i = V.int j) = true) : i ≠ j := fun e => h (decide_eq_true (by rw [e]))

section
variable {P : Program} {w : World} {K : PySem.W.Frag} {mg : Str → Option Value} {base : Heap}
theorem ok_ini {i : Nat} (hi : i < 12) {C fI : Addr} {fd : FuncData} (k : Kit K mg i C fI fd) : FnOk P w K mg base CX0 1 fI fd ["self", fldOf i] (spIni C (fldOf i)) := by
  have F := k.F
  have no := k.no
  have T := k.T
  clear k
  rcases upto hi with rfl | rfl | rfl | rfl | rfl | rfl | rfl | rfl | rfl | rfl | rfl | rfl
  all_goals
    refine F.ok (N := ["self", fldOf _]) ⟨rfl, rfl, rfl, by decide +kernel, rfl, by decide +kernel, by decide +kernel⟩ (fun vs H Q E h => ?_) (fun cdv A outer s H vs Q E hr h => ?_)
    · obtain ⟨a, v, rfl, _⟩ := h
      rfl
    · obtain ⟨a, v, rfl, ha, k⟩ := h
      refine ⟨_, pss_one (ps_ini (pv 0) (pv 1)), ?_⟩
      exact ⟨_, rfl, _, rfl, a, C, rfl, T, no, ha, k⟩

abbrev sMade : Stmt := topS 20
abbrev sOther : Stmt := topS 21
/-- _law_made, _law_other: the error with this number and field; from at its least number -/
def spMade (Cs : Nat → Addr) (least : Nat) : Sp := fun vs H Q _ => ∃ (i : Nat) (v : V) (nm : Bool), vs = [.int i, v, .bl nm] ∧ least ≤ i ∧ i ≤ 12 ∧
  (i < 12 → ∀ a dx, H a = none → H dx = none → dx ≠ a → Q (.ref a) (upd (upd H dx (exd dx [(fldOf i, v)])) a (exo a (Cs i) (some dx)))) ∧
  (i = 12 → ∀ a, H a = none → Q (.ref a) (upd H a (exo a (Cs 12) none)))
theorem scMade : FnScope ["number", "thing", "named"] ["number", "thing", "named"] (defScope sMade) := ⟨rfl, rfl, rfl, by decide +kernel, rfl, by decide +kernel, by decide +kernel⟩
theorem scOther : FnScope ["number", "thing", "named"] ["number", "thing", "named"] (defScope sOther) := ⟨rfl, rfl, rfl, by decide +kernel, rfl, by decide +kernel, by decide +kernel⟩
section
variable {Cs fs : Nat → Addr} {fds : Nat → FuncData}
theorem ok_other {f : Addr} {fd : FuncData} (F : Fun K "_law_other" "_law_other" sOther f fd) (Ks : ∀ i, i < 12 → Kit K mg i (Cs i) (fs i) (fds i)) (K12 : Kit0 K mg (Cs 12) (fs 12) (fds 12)) :
    FnOk P w K mg base CX0 3 f fd ["number", "thing", "named"] (spMade Cs 5) := by
  refine F.ok scOther (fun vs H Q E h => ?_) (fun cdv A outer s H vs Q E hr h => ?_)
  · obtain ⟨i, v, nm, rfl, _⟩ := h
    rfl
  obtain ⟨i, v, nm, rfl, low, high, q1, q2⟩ := h
  have G : ∀ i, i < 12 → FnOk P w K mg base CX0 1 (fs i) (fds i) ["self", fldOf i] (spIni (Cs i) (fldOf i)) := fun i hi => ok_ini hi (Ks i hi)
  obtain ⟨pp, hb12⟩ := body12
  have k5 := Ks 5 (by decide)
  have k6 := Ks 6 (by decide)
  have k7 := Ks 7 (by decide)
  have k8 := Ks 8 (by decide)
  have k9 := Ks 9 (by decide)
  have k10 := Ks 10 (by decide)
  have k11 := Ks 11 (by decide)
  refine ⟨_, pss_cons (ps_if (pt_cmpR op_eq (pv 0) pe_int (nomark _)) (pss_one (ps_ret (pe_ifExp (pt_val (pv 2)) (pe_errK k5.T k5.iC k5.tI (G 5 (by decide)) hr k5.kb pass0 rfl k5.mgC (pv 1)) (pe_err k5.T k5.iC k5.tI (G 5 (by decide)) hr k5.b pass0 rfl k5.mgC (pa_cons (pv 1) pa_nil))))) pss_nil)
    (pss_cons (ps_if (pt_cmpR op_eq (pv 0) pe_int (nomark _)) (pss_one (ps_ret (pe_ifExp (pt_val (pv 2)) (pe_errK k6.T k6.iC k6.tI (G 6 (by decide)) hr k6.kb pass0 rfl k6.mgC (pv 1)) (pe_err k6.T k6.iC k6.tI (G 6 (by decide)) hr k6.b pass0 rfl k6.mgC (pa_cons (pv 1) pa_nil))))) pss_nil)
    (pss_cons (ps_if (pt_cmpR op_eq (pv 0) pe_int (nomark _)) (pss_one (ps_ret (pe_ifExp (pt_val (pv 2)) (pe_errK k7.T k7.iC k7.tI (G 7 (by decide)) hr k7.kb pass0 rfl k7.mgC (pv 1)) (pe_err k7.T k7.iC k7.tI (G 7 (by decide)) hr k7.b pass0 rfl k7.mgC (pa_cons (pv 1) pa_nil))))) pss_nil)
    (pss_cons (ps_if (pt_cmpR op_eq (pv 0) pe_int (nomark _)) (pss_one (ps_ret (pe_ifExp (pt_val (pv 2)) (pe_errK k8.T k8.iC k8.tI (G 8 (by decide)) hr k8.kb pass0 rfl k8.mgC (pv 1)) (pe_err k8.T k8.iC k8.tI (G 8 (by decide)) hr k8.b pass0 rfl k8.mgC (pa_cons (pv 1) pa_nil))))) pss_nil)
    (pss_cons (ps_if (pt_cmpR op_eq (pv 0) pe_int (nomark _)) (pss_one (ps_ret (pe_ifExp (pt_val (pv 2)) (pe_errK k9.T k9.iC k9.tI (G 9 (by decide)) hr k9.kb pass0 rfl k9.mgC (pv 1)) (pe_err k9.T k9.iC k9.tI (G 9 (by decide)) hr k9.b pass0 rfl k9.mgC (pa_cons (pv 1) pa_nil))))) pss_nil)
    (pss_cons (ps_if (pt_cmpR op_eq (pv 0) pe_int (nomark _)) (pss_one (ps_ret (pe_ifExp (pt_val (pv 2)) (pe_errK k10.T k10.iC k10.tI (G 10 (by decide)) hr k10.kb pass0 rfl k10.mgC (pv 1)) (pe_err k10.T k10.iC k10.tI (G 10 (by decide)) hr k10.b pass0 rfl k10.mgC (pa_cons (pv 1) pa_nil))))) pss_nil)
    (pss_cons (ps_if (pt_cmpR op_eq (pv 0) pe_int (nomark _)) (pss_one (ps_ret (pe_ifExp (pt_val (pv 2)) (pe_errK k11.T k11.iC k11.tI (G 11 (by decide)) hr k11.kb pass0 rfl k11.mgC (pv 1)) (pe_err k11.T k11.iC k11.tI (G 11 (by decide)) hr k11.b pass0 rfl k11.mgC (pa_cons (pv 1) pa_nil))))) pss_nil)
    (pss_one (ps_ret (pe_err0 K12.T K12.iC K12.tI K12.F hb12 sc12 loc12 K12.b (hr.mono (by decide)) rfl K12.mgC)))))))))  , ?_⟩
  refine ⟨_, rfl, rfl, _, rfl, ?_⟩
  refine ite2 (fun h => ?_) (fun h => ?_)
  · have e := int_eq h
    obtain rfl : i = 5 := by omega
    refine ⟨_, rfl, _, rfl, ?_⟩
    refine ite2 (fun _ => ?_) (fun _ => ?_)
    · exact ⟨_, rfl, v, rfl, q1 (by decide)⟩
    · exact ⟨_, rfl, v, rfl, q1 (by decide)⟩
  have n5 := int_ne h
  clear h
  refine ⟨_, rfl, rfl, _, rfl, ?_⟩
  refine ite2 (fun h => ?_) (fun h => ?_)
  · have e := int_eq h
    obtain rfl : i = 6 := by omega
    refine ⟨_, rfl, _, rfl, ?_⟩
    refine ite2 (fun _ => ?_) (fun _ => ?_)
    · exact ⟨_, rfl, v, rfl, q1 (by decide)⟩
    · exact ⟨_, rfl, v, rfl, q1 (by decide)⟩
  have n6 := int_ne h
  clear h
  refine ⟨_, rfl, rfl, _, rfl, ?_⟩
  refine ite2 (fun h => ?_) (fun h => ?_)
  · have e := int_eq h
    obtain rfl : i = 7 := by omega
    refine ⟨_, rfl, _, rfl, ?_⟩
    refine ite2 (fun _ => ?_) (fun _ => ?_)
    · exact ⟨_, rfl, v, rfl, q1 (by decide)⟩
    · exact ⟨_, rfl, v, rfl, q1 (by decide)⟩
  have n7 := int_ne h
  clear h
  refine ⟨_, rfl, rfl, _, rfl, ?_⟩
  refine ite2 (fun h => ?_) (fun h => ?_)
  · have e := int_eq h
    obtain rfl : i = 8 := by omega
    refine ⟨_, rfl, _, rfl, ?_⟩
    refine ite2 (fun _ => ?_) (fun _ => ?_)
    · exact ⟨_, rfl, v, rfl, q1 (by decide)⟩
    · exact ⟨_, rfl, v, rfl, q1 (by decide)⟩
  have n8 := int_ne h
  clear h
  refine ⟨_, rfl, rfl, _, rfl, ?_⟩
  refine ite2 (fun h => ?_) (fun h => ?_)
  · have e := int_eq h
    obtain rfl : i = 9 := by omega
    refine ⟨_, rfl, _, rfl, ?_⟩
    refine ite2 (fun _ => ?_) (fun _ => ?_)
    · exact ⟨_, rfl, v, rfl, q1 (by decide)⟩
    · exact ⟨_, rfl, v, rfl, q1 (by decide)⟩
  have n9 := int_ne h
  clear h
  refine ⟨_, rfl, rfl, _, rfl, ?_⟩
  refine ite2 (fun h => ?_) (fun h => ?_)
  · have e := int_eq h
    obtain rfl : i = 10 := by omega
    refine ⟨_, rfl, _, rfl, ?_⟩
    refine ite2 (fun _ => ?_) (fun _ => ?_)
    · exact ⟨_, rfl, v, rfl, q1 (by decide)⟩
    · exact ⟨_, rfl, v, rfl, q1 (by decide)⟩
  have n10 := int_ne h
  clear h
  refine ⟨_, rfl, rfl, _, rfl, ?_⟩
  refine ite2 (fun h => ?_) (fun h => ?_)
  · have e := int_eq h
    obtain rfl : i = 11 := by omega
    refine ⟨_, rfl, _, rfl, ?_⟩
    refine ite2 (fun _ => ?_) (fun _ => ?_)
    · exact ⟨_, rfl, v, rfl, q1 (by decide)⟩
    · exact ⟨_, rfl, v, rfl, q1 (by decide)⟩
  have n11 := int_ne h
  clear h
  obtain rfl : i = 12 := by omega
  exact q2 rfl
theorem ok_made {f fO : Addr} {fd fdO : FuncData} (F : Fun K "_law_made" "_law_made" sMade f fd) (Ks : ∀ i, i < 12 → Kit K mg i (Cs i) (fs i) (fds i)) (GO : FnOk P w K mg base CX0 3 fO fdO ["number", "thing", "named"] (spMade Cs 5))
    (mO : mg "_law_other" = some (.ref fO)) (kO : PySem.W.keepIn K (.ref fO) = true) (bO : Binds K fdO ["number", "thing", "named"] []) : FnOk P w K mg base CX0 4 f fd ["number", "thing", "named"] (spMade Cs 0) := by
  refine F.ok scMade (fun vs H Q E h => ?_) (fun cdv A outer s H vs Q E hr h => ?_)
  · obtain ⟨i, v, nm, rfl, _⟩ := h
    rfl
  obtain ⟨i, v, nm, rfl, low, high, q1, q2⟩ := h
  have G : ∀ i, i < 12 → FnOk P w K mg base CX0 1 (fs i) (fds i) ["self", fldOf i] (spIni (Cs i) (fldOf i)) := fun i hi => ok_ini hi (Ks i hi)
  have hr1 : Room 2 _ := hr.mono (by decide)
  have k0 := Ks 0 (by decide)
  have k1 := Ks 1 (by decide)
  have k2 := Ks 2 (by decide)
  have k3 := Ks 3 (by decide)
  have k4 := Ks 4 (by decide)
  refine ⟨_, pss_cons (ps_if (pt_cmpR op_eq (pv 0) pe_int (nomark _)) (pss_one (ps_ret (pe_ifExp (pt_val (pv 2)) (pe_errK k0.T k0.iC k0.tI (G 0 (by decide)) hr1 k0.kb pass0 rfl k0.mgC (pv 1)) (pe_err k0.T k0.iC k0.tI (G 0 (by decide)) hr1 k0.b pass0 rfl k0.mgC (pa_cons (pv 1) pa_nil))))) pss_nil)
    (pss_cons (ps_if (pt_cmpR op_eq (pv 0) pe_int (nomark _)) (pss_one (ps_ret (pe_ifExp (pt_val (pv 2)) (pe_errK k1.T k1.iC k1.tI (G 1 (by decide)) hr1 k1.kb pass0 rfl k1.mgC (pv 1)) (pe_err k1.T k1.iC k1.tI (G 1 (by decide)) hr1 k1.b pass0 rfl k1.mgC (pa_cons (pv 1) pa_nil))))) pss_nil)
    (pss_cons (ps_if (pt_cmpR op_eq (pv 0) pe_int (nomark _)) (pss_one (ps_ret (pe_ifExp (pt_val (pv 2)) (pe_errK k2.T k2.iC k2.tI (G 2 (by decide)) hr1 k2.kb pass0 rfl k2.mgC (pv 1)) (pe_err k2.T k2.iC k2.tI (G 2 (by decide)) hr1 k2.b pass0 rfl k2.mgC (pa_cons (pv 1) pa_nil))))) pss_nil)
    (pss_cons (ps_if (pt_cmpR op_eq (pv 0) pe_int (nomark _)) (pss_one (ps_ret (pe_ifExp (pt_val (pv 2)) (pe_errK k3.T k3.iC k3.tI (G 3 (by decide)) hr1 k3.kb pass0 rfl k3.mgC (pv 1)) (pe_err k3.T k3.iC k3.tI (G 3 (by decide)) hr1 k3.b pass0 rfl k3.mgC (pa_cons (pv 1) pa_nil))))) pss_nil)
    (pss_cons (ps_if (pt_cmpR op_eq (pv 0) pe_int (nomark _)) (pss_one (ps_ret (pe_ifExp (pt_val (pv 2)) (pe_errK k4.T k4.iC k4.tI (G 4 (by decide)) hr1 k4.kb pass0 rfl k4.mgC (pv 1)) (pe_err k4.T k4.iC k4.tI (G 4 (by decide)) hr1 k4.b pass0 rfl k4.mgC (pa_cons (pv 1) pa_nil))))) pss_nil)
    (pss_one (ps_ret (pe_call GO hr rfl mO kO bO .nil pass0 (pa_cons (pv 0) (pa_cons (pv 1) (pa_cons (pv 2) pa_nil)))))))))), ?_⟩
  refine ⟨_, rfl, rfl, _, rfl, ?_⟩
  refine ite2 (fun h => ?_) (fun h => ?_)
  · have e := int_eq h
    obtain rfl : i = 0 := by omega
    refine ⟨_, rfl, _, rfl, ?_⟩
    refine ite2 (fun _ => ?_) (fun _ => ?_)
    · exact ⟨_, rfl, v, rfl, q1 (by decide)⟩
    · exact ⟨_, rfl, v, rfl, q1 (by decide)⟩
  have n0 := int_ne h
  clear h
  refine ⟨_, rfl, rfl, _, rfl, ?_⟩
  refine ite2 (fun h => ?_) (fun h => ?_)
  · have e := int_eq h
    obtain rfl : i = 1 := by omega
    refine ⟨_, rfl, _, rfl, ?_⟩
    refine ite2 (fun _ => ?_) (fun _ => ?_)
    · exact ⟨_, rfl, v, rfl, q1 (by decide)⟩
    · exact ⟨_, rfl, v, rfl, q1 (by decide)⟩
  have n1 := int_ne h
  clear h
  refine ⟨_, rfl, rfl, _, rfl, ?_⟩
  refine ite2 (fun h => ?_) (fun h => ?_)
  · have e := int_eq h
    obtain rfl : i = 2 := by omega
    refine ⟨_, rfl, _, rfl, ?_⟩
    refine ite2 (fun _ => ?_) (fun _ => ?_)
    · exact ⟨_, rfl, v, rfl, q1 (by decide)⟩
    · exact ⟨_, rfl, v, rfl, q1 (by decide)⟩
  have n2 := int_ne h
  clear h
  refine ⟨_, rfl, rfl, _, rfl, ?_⟩
  refine ite2 (fun h => ?_) (fun h => ?_)
  · have e := int_eq h
    obtain rfl : i = 3 := by omega
    refine ⟨_, rfl, _, rfl, ?_⟩
    refine ite2 (fun _ => ?_) (fun _ => ?_)
    · exact ⟨_, rfl, v, rfl, q1 (by decide)⟩
    · exact ⟨_, rfl, v, rfl, q1 (by decide)⟩
  have n3 := int_ne h
  clear h
  refine ⟨_, rfl, rfl, _, rfl, ?_⟩
  refine ite2 (fun h => ?_) (fun h => ?_)
  · have e := int_eq h
    obtain rfl : i = 4 := by omega
    refine ⟨_, rfl, _, rfl, ?_⟩
    refine ite2 (fun _ => ?_) (fun _ => ?_)
    · exact ⟨_, rfl, v, rfl, q1 (by decide)⟩
    · exact ⟨_, rfl, v, rfl, q1 (by decide)⟩
  have n4 := int_ne h
  clear h
  exact ⟨_, rfl, _, rfl, _, rfl, i, v, nm, rfl, by omega, high, q1, q2⟩
end
end
end K00
set_option Elab.async false
set_option linter.all false
set_option maxRecDepth 100000
set_option maxHeartbeats 4000000
namespace K00
open PySem PySem.Spec PyProof.Rows L2 Wb
abbrev sKinds : Stmt := topS 22
abbrev sKept : Stmt := topS 23
/-- an error with this number stands at a -/
structure IsErr (Cs : Nat → Addr) (H : Hp) (i : Nat) (a : Addr) (od : Option Addr) : Prop where
  at_ : H a = some (exo a (Cs i) od)
  own : ∀ dx, od = some dx → ∃ fs, H dx = some (exd dx fs)
theorem IsErr.same {Cs : Nat → Addr} {H H' : Hp} {i : Nat} {a : Addr} {od : Option Addr} (e : IsErr Cs H i a od) (s : Same H H') : IsErr Cs H' i a od :=
  ⟨s _ _ e.at_, fun dx h => by
    obtain ⟨fs, q⟩ := e.own dx h
    exact ⟨fs, s _ _ q⟩⟩
/-- _law_kinds(e): the number alone -/
def spKinds (Cs : Nat → Addr) : Sp := fun vs H Q _ => ∃ (i : Nat) (a : Addr) (od : Option Addr), vs = [.ref a] ∧ i ≤ 12 ∧ IsErr Cs H i a od ∧ ∀ (p : Addr) (H' : Hp), H p = none → Same H H' → H' p = some (.lst [.int i]) → Q (.ref p) H'
/-- _law_kept(number, e): a new list of the field's value, if it has one -/
def spKept (Cs : Nat → Addr) : Sp := fun vs H Q _ => ∃ (i : Nat) (a : Addr), vs = [.int i, .ref a] ∧ i ≤ 12 ∧
  (i < 12 → ∃ (dx : Addr) (v : V), H a = some (exo a (Cs i) (some dx)) ∧ H dx = some (exd dx [(fldOf i, v)]) ∧ ∀ p, H p = none → Q (.ref p) (upd H p (.lst [v]))) ∧
  (i = 12 → ∀ p, H p = none → Q (.ref p) (upd H p (.lst [])))
def bools (i : Nat) : List V := (List.range 13).map fun j => V.bl (decide (i = j))
theorem bools_at {i t : Nat} (h : t < 13) : (bools i)[t]? = some (.bl (decide (i = t))) := by
  unfold bools
  rw [List.getElem?_map, List.getElem?_range h]
  rfl
section
variable {P : Program} {w : World} {K : PySem.W.Frag} {mg : Str → Option Value} {base : Heap} {Cs fs : Nat → Addr} {fds : Nat → FuncData}
theorem scKinds : FnScope ["e", "found", "at"] ["e"] (defScope sKinds) := ⟨rfl, rfl, rfl, by decide +kernel, rfl, by decide +kernel, by decide +kernel⟩
theorem ok_kinds {f : Addr} {fd : FuncData} (F : Fun K "_law_kinds" "_law_kinds" sKinds f fd) (Ts : ∀ i, i ≤ 12 → ErrC K (Cs i)) (mgs : ∀ i, i ≤ 12 → mg (nmOf i) = some (.ref (Cs i)))
    (kk : ∀ i j, i ≤ 12 → j ≤ 12 → PySem.W.kitOne K (.ref (Cs i)) (.ref (Cs j)) = some (decide (i = j))) (noIsi : mg "isinstance" = none) (noRange : mg "range" = none) (noLen : mg "len" = none) :
    FnOk P w K mg base CX0 1 f fd ["e"] (spKinds Cs) := by
  refine F.ok scKinds (fun vs H Q E h => ?_) (fun cdv A outer s H vs Q E hr h => ?_)
  · obtain ⟨i, a, od, rfl, _⟩ := h
    rfl
  obtain ⟨i, a, od, rfl, hi, ie, k⟩ := h
  have Ti := Ts i hi
  refine ⟨_, pss_cons (ps_set (i := 1) scKinds.nd rfl (Or.inr rfl) (pe_lst (pa_cons (pe_callB call_isErr (by rfl) noIsi (by decide +kernel) (pa_cons (pv 0) (pa_cons (pe_glob (by rfl) (mgs 0 (by decide)) (show RelV (.ref (Cs 0)) (.ref (Cs 0)) from rfl)) pa_nil))) (pa_cons (pe_callB call_isErr (by rfl) noIsi (by decide +kernel) (pa_cons (pv 0) (pa_cons (pe_glob (by rfl) (mgs 1 (by decide)) (show RelV (.ref (Cs 1)) (.ref (Cs 1)) from rfl)) pa_nil))) (pa_cons (pe_callB call_isErr (by rfl) noIsi (by decide +kernel) (pa_cons (pv 0) (pa_cons (pe_glob (by rfl) (mgs 2 (by decide)) (show RelV (.ref (Cs 2)) (.ref (Cs 2)) from rfl)) pa_nil))) (pa_cons (pe_callB call_isErr (by rfl) noIsi (by decide +kernel) (pa_cons (pv 0) (pa_cons (pe_glob (by rfl) (mgs 3 (by decide)) (show RelV (.ref (Cs 3)) (.ref (Cs 3)) from rfl)) pa_nil))) (pa_cons (pe_callB call_isErr (by rfl) noIsi (by decide +kernel) (pa_cons (pv 0) (pa_cons (pe_glob (by rfl) (mgs 4 (by decide)) (show RelV (.ref (Cs 4)) (.ref (Cs 4)) from rfl)) pa_nil))) pa_nil)))))))
    (pss_cons (ps_set (i := 1) scKinds.nd rfl (Or.inr rfl) (pe_op op_cat (pv 1) (pe_lst (pa_cons (pe_callB call_isErr (by rfl) noIsi (by decide +kernel) (pa_cons (pv 0) (pa_cons (pe_glob (by rfl) (mgs 5 (by decide)) (show RelV (.ref (Cs 5)) (.ref (Cs 5)) from rfl)) pa_nil))) (pa_cons (pe_callB call_isErr (by rfl) noIsi (by decide +kernel) (pa_cons (pv 0) (pa_cons (pe_glob (by rfl) (mgs 6 (by decide)) (show RelV (.ref (Cs 6)) (.ref (Cs 6)) from rfl)) pa_nil))) (pa_cons (pe_callB call_isErr (by rfl) noIsi (by decide +kernel) (pa_cons (pv 0) (pa_cons (pe_glob (by rfl) (mgs 7 (by decide)) (show RelV (.ref (Cs 7)) (.ref (Cs 7)) from rfl)) pa_nil))) (pa_cons (pe_callB call_isErr (by rfl) noIsi (by decide +kernel) (pa_cons (pv 0) (pa_cons (pe_glob (by rfl) (mgs 8 (by decide)) (show RelV (.ref (Cs 8)) (.ref (Cs 8)) from rfl)) pa_nil))) pa_nil)))))))
    (pss_cons (ps_set (i := 1) scKinds.nd rfl (Or.inr rfl) (pe_op op_cat (pv 1) (pe_lst (pa_cons (pe_callB call_isErr (by rfl) noIsi (by decide +kernel) (pa_cons (pv 0) (pa_cons (pe_glob (by rfl) (mgs 9 (by decide)) (show RelV (.ref (Cs 9)) (.ref (Cs 9)) from rfl)) pa_nil))) (pa_cons (pe_callB call_isErr (by rfl) noIsi (by decide +kernel) (pa_cons (pv 0) (pa_cons (pe_glob (by rfl) (mgs 10 (by decide)) (show RelV (.ref (Cs 10)) (.ref (Cs 10)) from rfl)) pa_nil))) (pa_cons (pe_callB call_isErr (by rfl) noIsi (by decide +kernel) (pa_cons (pv 0) (pa_cons (pe_glob (by rfl) (mgs 11 (by decide)) (show RelV (.ref (Cs 11)) (.ref (Cs 11)) from rfl)) pa_nil))) (pa_cons (pe_callB call_isErr (by rfl) noIsi (by decide +kernel) (pa_cons (pv 0) (pa_cons (pe_glob (by rfl) (mgs 12 (by decide)) (show RelV (.ref (Cs 12)) (.ref (Cs 12)) from rfl)) pa_nil))) pa_nil)))))))
    (pss_one (ps_ret (pe_lc (own := [("at", 2)]) (g := gName 2) rfl scKinds.nd (pi_range1 rfl noRange (pa_cons (pe_callB call_len (by rfl) noLen (by decide +kernel) (pa_cons (pv 1) pa_nil)) pa_nil))
      (blkOk_by (own := [("at", 2)]) (N := ["e", "found", "at"]) (sc := defScope sKinds) (by decide +kernel)) (fun _ _ _ _ _ => pg_name (i := 2) scKinds.nd rfl (Or.inl rfl))
      (fun _ _ _ _ _ => pts_one (pt_val (pe_ix (r := rIxL K) ix_list (pv 1) (pv 2) (fun _ _ => rfl)))) (fun _ _ _ _ _ => pv 2)))))), ?_⟩
  refine ⟨_, rfl, a, Cs i, od, _, _, _, rfl, ie.at_, ie.own, Ti, .own _, kk i 0 hi (by decide), _, rfl, a, Cs i, od, _, _, _, rfl, ie.at_, ie.own, Ti, .own _, kk i 1 hi (by decide), _, rfl, a, Cs i, od, _, _, _, rfl, ie.at_, ie.own, Ti, .own _, kk i 2 hi (by decide), _, rfl, a, Cs i, od, _, _, _, rfl, ie.at_, ie.own, Ti, .own _, kk i 3 hi (by decide), _, rfl, a, Cs i, od, _, _, _, rfl, ie.at_, ie.own, Ti, .own _, kk i 4 hi (by decide), (by show 5 ≤ sizeLine; decide), fun p1 hp1 => ?_⟩
  have S1 := new_same (o := .lst [.bl (decide (i = 0)), .bl (decide (i = 1)), .bl (decide (i = 2)), .bl (decide (i = 3)), .bl (decide (i = 4))]) hp1
  have ie1 := ie.same S1
  have at1 : (upd H p1 (.lst [.bl (decide (i = 0)), .bl (decide (i = 1)), .bl (decide (i = 2)), .bl (decide (i = 3)), .bl (decide (i = 4))])) p1 = _ := upd_same
  generalize upd H p1 (.lst [.bl (decide (i = 0)), .bl (decide (i = 1)), .bl (decide (i = 2)), .bl (decide (i = 3)), .bl (decide (i = 4))]) = H1 at *
  refine ⟨_, rfl, _, rfl, a, Cs i, od, _, _, _, rfl, ie1.at_, ie1.own, Ti, .own _, kk i 5 hi (by decide), _, rfl, a, Cs i, od, _, _, _, rfl, ie1.at_, ie1.own, Ti, .own _, kk i 6 hi (by decide), _, rfl, a, Cs i, od, _, _, _, rfl, ie1.at_, ie1.own, Ti, .own _, kk i 7 hi (by decide), _, rfl, a, Cs i, od, _, _, _, rfl, ie1.at_, ie1.own, Ti, .own _, kk i 8 hi (by decide), (by show 4 ≤ sizeLine; decide), fun p2 hp2 => ?_⟩
  have S2 := new_same (o := .lst [.bl (decide (i = 5)), .bl (decide (i = 6)), .bl (decide (i = 7)), .bl (decide (i = 8))]) hp2
  have at2 : (upd H1 p2 (.lst [.bl (decide (i = 5)), .bl (decide (i = 6)), .bl (decide (i = 7)), .bl (decide (i = 8))])) p2 = _ := upd_same
  have at1' := S2 _ _ at1
  have ie2 := ie1.same S2
  generalize upd H1 p2 (.lst [.bl (decide (i = 5)), .bl (decide (i = 6)), .bl (decide (i = 7)), .bl (decide (i = 8))]) = H2 at *
  refine ⟨_, _, _, _, rfl, rfl, at1', at2, (by show 9 ≤ sizeLine; decide), fun p3 hp3 => ?_⟩
  have S3 := new_same (o := .lst ([.bl (decide (i = 0)), .bl (decide (i = 1)), .bl (decide (i = 2)), .bl (decide (i = 3)), .bl (decide (i = 4))] ++ [.bl (decide (i = 5)), .bl (decide (i = 6)), .bl (decide (i = 7)), .bl (decide (i = 8))])) hp3
  have at3 : (upd H2 p3 (.lst ([.bl (decide (i = 0)), .bl (decide (i = 1)), .bl (decide (i = 2)), .bl (decide (i = 3)), .bl (decide (i = 4))] ++ [.bl (decide (i = 5)), .bl (decide (i = 6)), .bl (decide (i = 7)), .bl (decide (i = 8))]))) p3 = _ := upd_same
  have ie3 := ie2.same S3
  generalize upd H2 p3 (.lst ([.bl (decide (i = 0)), .bl (decide (i = 1)), .bl (decide (i = 2)), .bl (decide (i = 3)), .bl (decide (i = 4))] ++ [.bl (decide (i = 5)), .bl (decide (i = 6)), .bl (decide (i = 7)), .bl (decide (i = 8))])) = H3 at *
  refine ⟨_, rfl, _, rfl, a, Cs i, od, _, _, _, rfl, ie3.at_, ie3.own, Ti, .own _, kk i 9 hi (by decide), _, rfl, a, Cs i, od, _, _, _, rfl, ie3.at_, ie3.own, Ti, .own _, kk i 10 hi (by decide), _, rfl, a, Cs i, od, _, _, _, rfl, ie3.at_, ie3.own, Ti, .own _, kk i 11 hi (by decide), _, rfl, a, Cs i, od, _, _, _, rfl, ie3.at_, ie3.own, Ti, .own _, kk i 12 hi (by decide), (by show 4 ≤ sizeLine; decide), fun p4 hp4 => ?_⟩
  have S4 := new_same (o := .lst [.bl (decide (i = 9)), .bl (decide (i = 10)), .bl (decide (i = 11)), .bl (decide (i = 12))]) hp4
  have at4 : (upd H3 p4 (.lst [.bl (decide (i = 9)), .bl (decide (i = 10)), .bl (decide (i = 11)), .bl (decide (i = 12))])) p4 = _ := upd_same
  have at3' := S4 _ _ at3
  generalize upd H3 p4 (.lst [.bl (decide (i = 9)), .bl (decide (i = 10)), .bl (decide (i = 11)), .bl (decide (i = 12))]) = H4 at *
  refine ⟨_, _, _, _, rfl, rfl, at3', at4, (by show 13 ≤ sizeLine; decide), fun p5 hp5 => ?_⟩
  have S5 := new_same (o := .lst (bools i)) hp5
  have at5 : (upd H4 p5 (.lst (bools i))) p5 = some (.lst (bools i)) := upd_same
  rw [show ([.bl (decide (i = 0)), .bl (decide (i = 1)), .bl (decide (i = 2)), .bl (decide (i = 3)), .bl (decide (i = 4))] ++ [.bl (decide (i = 5)), .bl (decide (i = 6)), .bl (decide (i = 7)), .bl (decide (i = 8))] ++ [.bl (decide (i = 9)), .bl (decide (i = 10)), .bl (decide (i = 11)), .bl (decide (i = 12))] : List V) = bools i from rfl]
  generalize upd H4 p5 (.lst (bools i)) = H5 at *
  have SS : Same H H5 := (((S1.trans S2).trans S3).trans S4).trans S5
  have free5 : ∀ x, H5 x = none → H x = none := fun x h => SS.free h
  refine ⟨_, rfl, _, 13, rfl, .inl ⟨bools i, SqL.of at5, rfl⟩, 13, rfl, by decide, by decide, fun D hD => ?_⟩
  refine lc_range (lo := 0) (n := 13) (fun t G => G D = some (.lst (if i < t then [V.int i] else [])) ∧ Same H5 G) ⟨by rw [if_neg (Nat.not_lt_zero i)]; exact upd_same, new_same hD⟩ ?_ ?_
  · rintro t G ht ⟨hG, sg⟩
    refine ⟨rfl, _, rfl, _, rfl, p5, bools i, _, _, rfl, rfl, SqL.of (sg _ _ at5), at_of (by omega : (0 : Int) + (t : Int) = (t : Int)) (bools_at ht), _, rfl, ?_⟩
    refine ite2 (fun h => ?_) (fun h => ?_)
    · have e : i = t := of_decide_eq_true h
      subst e
      refine ⟨_, rfl, _, hG, ?_, ?_, ?_⟩
      · rw [if_neg (Nat.lt_irrefl i), sizeLine_eq]
        decide
      · rw [upd_same, if_neg (Nat.lt_irrefl i), if_pos (Nat.lt_succ_self i)]
        show some (HO.lst ([] ++ [V.int (0 + (i : Int))])) = _
        rw [Int.zero_add]
        rfl
      · intro b o z
        rw [upd_ne (ne_of_none z hD)]
        exact sg b o z
    · have e : i ≠ t := fun z => h (decide_eq_true z)
      refine ⟨?_, sg⟩
      by_cases q : i < t
      · rw [if_pos (by omega)]
        rw [if_pos q] at hG
        exact hG
      · rw [if_neg (by omega)]
        rw [if_neg q] at hG
        exact hG
  · rintro G ⟨hG, sg⟩
    rw [if_pos (by omega)] at hG
    exact k D G (free5 D hD) (SS.trans sg) hG

theorem scKept : FnScope ["number", "e"] ["number", "e"] (defScope sKept) := ⟨rfl, rfl, rfl, by decide +kernel, rfl, by decide +kernel, by decide +kernel⟩
theorem ok_kept {f : Addr} {fd : FuncData} (F : Fun K "_law_kept" "_law_kept" sKept f fd) (Ks : ∀ i, i < 12 → Kit K mg i (Cs i) (fs i) (fds i)) : FnOk P w K mg base CX0 1 f fd ["number", "e"] (spKept Cs) := by
  refine F.ok scKept (fun vs H Q E h => ?_) (fun cdv A outer s H vs Q E hr h => ?_)
  · obtain ⟨i, a, rfl, _⟩ := h
    rfl
  obtain ⟨i, a, rfl, hi, q1, q2⟩ := h
  refine ⟨_, pss_cons (ps_if (pt_cmpR op_lt (pv 0) pe_int (nomark _)) (pss_one (ps_ret (pe_lst (pa_cons (pe_efld (pv 1)) pa_nil)))) pss_nil)
    (pss_cons (ps_if (pt_cmpR op_lt (pv 0) pe_int (nomark _)) (pss_one (ps_ret (pe_lst (pa_cons (pe_efld (pv 1)) pa_nil)))) pss_nil)
    (pss_one (ps_ret (pe_ifExp (pt_cmpR op_eq (pv 0) pe_int (nomark _)) (pe_lst (pa_cons (pe_efld (pv 1)) pa_nil)) (pe_lst pa_nil))))), ?_⟩
  have look : ∀ (f : Str) (v : V), ([(f, v)] : List (Str × V)).lookup f = some v := fun f v => by simp [List.lookup]
  refine ⟨_, rfl, _, _, rfl, rfl, _, rfl, ?_⟩
  refine ite2 (fun h => ?_) (fun h => ?_)
  · have e : (i : Int) < 9 := of_decide_eq_true h
    obtain ⟨dx, v, h1, h2, k⟩ := q1 (by omega)
    have kit := Ks i (by omega)
    have fe : fldOf i = "at" := by
      have : i = 0 ∨ i = 1 ∨ i = 2 ∨ i = 3 ∨ i = 4 ∨ i = 5 ∨ i = 6 ∨ i = 7 ∨ i = 8 := by omega
      rcases this with rfl | rfl | rfl | rfl | rfl | rfl | rfl | rfl | rfl <;> rfl
    have no := kit.no
    rw [fe] at h2 no
    exact ⟨_, rfl, a, Cs i, dx, _, v, rfl, h1, h2, kit.T, no, look _ _, (by show 1 ≤ sizeLine; decide), k⟩
  refine ⟨_, rfl, _, _, rfl, rfl, _, rfl, ?_⟩
  refine ite2 (fun h2 => ?_) (fun h2 => ?_)
  · have e : (i : Int) < 11 := of_decide_eq_true h2
    have e9 : ¬ (i : Int) < 9 := fun z => h (decide_eq_true z)
    obtain ⟨dx, v, h1, h2, k⟩ := q1 (by omega)
    have kit := Ks i (by omega)
    have fe : fldOf i = "word" := by
      have : i = 9 ∨ i = 10 := by omega
      rcases this with rfl | rfl <;> rfl
    have no := kit.no
    rw [fe] at h2 no
    exact ⟨_, rfl, a, Cs i, dx, _, v, rfl, h1, h2, kit.T, no, look _ _, (by show 1 ≤ sizeLine; decide), k⟩
  have e11 : ¬ (i : Int) < 11 := fun z => h2 (decide_eq_true z)
  refine ⟨_, rfl, rfl, _, rfl, ?_⟩
  refine ite2 (fun h3 => ?_) (fun h3 => ?_)
  · have e := int_eq h3
    obtain rfl : i = 11 := by omega
    obtain ⟨dx, v, h1, h2, k⟩ := q1 (by omega)
    have kit := Ks 11 (by omega)
    exact ⟨_, rfl, a, Cs 11, dx, _, v, rfl, h1, h2, kit.T, kit.no, look _ _, (by show 1 ≤ sizeLine; decide), k⟩
  · have e := int_ne h3
    obtain rfl : i = 12 := by omega
    exact ⟨(by show 0 ≤ sizeLine; decide), q2 rfl⟩
end
end K00
set_option Elab.async false
set_option linter.all false
set_option maxRecDepth 100000
set_option maxHeartbeats 4000000
namespace K00
open PySem PySem.Spec PyProof.Rows L2 Wb
abbrev sRaised : Stmt := topS 24
abbrev sCaught : Stmt := topS 25
/-- _law_raised(number): below 9 the error with this number is raised, with 1 -/
def spRaised (Cs : Nat → Addr) : Sp := fun vs H Q E => ∃ i : Nat, vs = [.int i] ∧ i ≤ 12 ∧ (i < 9 → ∀ dx, H dx = none → E (.ref (Cs i)) (some dx) (upd H dx (.xd [(fldOf i, .int 1)]))) ∧ (9 ≤ i → Q .non H)
/-- _law_caught(number): by which class it is caught -/
def spCaught : Sp := fun vs H Q _ => ∃ i : Nat, vs = [.int i] ∧ i ≤ 12 ∧ ∀ H', Same H H' → Q (.str (if i = 11 then "key" else "blank")) H'
section
variable {P : Program} {w : World} {K : PySem.W.Frag} {mg : Str → Option Value} {base : Heap} {Cs fs : Nat → Addr} {fds : Nat → FuncData}
theorem scRaised : FnScope ["number"] ["number"] (defScope sRaised) := ⟨rfl, rfl, rfl, by decide +kernel, rfl, by decide +kernel, by decide +kernel⟩
theorem ok_raised {f : Addr} {fd : FuncData} (F : Fun K "_law_raised" "_law_raised" sRaised f fd) (Ks : ∀ i, i < 12 → Kit K mg i (Cs i) (fs i) (fds i)) : FnOk P w K mg base (L2.CX P w) 3 f fd ["number"] (spRaised Cs) := by
  refine F.okX scRaised (fun vs H Q E h => ?_) (fun cdv A outer s H vs Q E hr h => ?_)
  · obtain ⟨i, rfl, _⟩ := h
    rfl
  obtain ⟨i, rfl, hi, q1, q2⟩ := h
  have G : ∀ i, i < 12 → FnOk P w K mg base CX0 1 (fs i) (fds i) ["self", fldOf i] (spIni (Cs i) (fldOf i)) := fun i hi => ok_ini hi (Ks i hi)
  have k0 := Ks 0 (by decide)
  have k1 := Ks 1 (by decide)
  have k2 := Ks 2 (by decide)
  have k3 := Ks 3 (by decide)
  have k4 := Ks 4 (by decide)
  have k5 := Ks 5 (by decide)
  have k6 := Ks 6 (by decide)
  have k7 := Ks 7 (by decide)
  have k8 := Ks 8 (by decide)
  refine ⟨_, 
    (pss_cons (ps_if (pt_cmpR op_eq (pv 0) pe_int (nomark _)) (pss_one (ps_raise rfl (takes_of rfl rfl rfl rfl) (pmk_err k0.T k0.iC k0.tI (G 0 (by decide)) hr k0.b pass0 rfl k0.mgC (pa_cons pe_int pa_nil)))) pss_nil)
    (pss_cons (ps_if (pt_cmpR op_eq (pv 0) pe_int (nomark _)) (pss_one (ps_raise rfl (takes_of rfl rfl rfl rfl) (pmk_err k1.T k1.iC k1.tI (G 1 (by decide)) hr k1.b pass0 rfl k1.mgC (pa_cons pe_int pa_nil)))) pss_nil)
    (pss_cons (ps_if (pt_cmpR op_eq (pv 0) pe_int (nomark _)) (pss_one (ps_raise rfl (takes_of rfl rfl rfl rfl) (pmk_err k2.T k2.iC k2.tI (G 2 (by decide)) hr k2.b pass0 rfl k2.mgC (pa_cons pe_int pa_nil)))) pss_nil)
    (pss_cons (ps_if (pt_cmpR op_eq (pv 0) pe_int (nomark _)) (pss_one (ps_raise rfl (takes_of rfl rfl rfl rfl) (pmk_err k3.T k3.iC k3.tI (G 3 (by decide)) hr k3.b pass0 rfl k3.mgC (pa_cons pe_int pa_nil)))) pss_nil)
    (pss_cons (ps_if (pt_cmpR op_eq (pv 0) pe_int (nomark _)) (pss_one (ps_raise rfl (takes_of rfl rfl rfl rfl) (pmk_err k4.T k4.iC k4.tI (G 4 (by decide)) hr k4.b pass0 rfl k4.mgC (pa_cons pe_int pa_nil)))) pss_nil)
    (pss_cons (ps_if (pt_cmpR op_eq (pv 0) pe_int (nomark _)) (pss_one (ps_raise rfl (takes_of rfl rfl rfl rfl) (pmk_err k5.T k5.iC k5.tI (G 5 (by decide)) hr k5.b pass0 rfl k5.mgC (pa_cons pe_int pa_nil)))) pss_nil)
    (pss_cons (ps_if (pt_cmpR op_eq (pv 0) pe_int (nomark _)) (pss_one (ps_raise rfl (takes_of rfl rfl rfl rfl) (pmk_err k6.T k6.iC k6.tI (G 6 (by decide)) hr k6.b pass0 rfl k6.mgC (pa_cons pe_int pa_nil)))) pss_nil)
    (pss_cons (ps_if (pt_cmpR op_eq (pv 0) pe_int (nomark _)) (pss_one (ps_raise rfl (takes_of rfl rfl rfl rfl) (pmk_err k7.T k7.iC k7.tI (G 7 (by decide)) hr k7.b pass0 rfl k7.mgC (pa_cons pe_int pa_nil)))) pss_nil)
    (pss_cons (ps_if (pt_cmpR op_eq (pv 0) pe_int (nomark _)) (pss_one (ps_raise rfl (takes_of rfl rfl rfl rfl) (pmk_err k8.T k8.iC k8.tI (G 8 (by decide)) hr k8.b pass0 rfl k8.mgC (pa_cons pe_int pa_nil)))) pss_nil)
    (pss_one (ps_ret pe_non))))))))))), ?_⟩
  refine ⟨_, rfl, rfl, _, rfl, ?_⟩
  refine ite2 (fun h => ?_) (fun h => ?_)
  · have e := int_eq h
    obtain rfl : i = 0 := by omega
    exact ⟨.int 1, rfl, q1 (by decide)⟩
  have n0 := int_ne h
  clear h
  refine ⟨_, rfl, rfl, _, rfl, ?_⟩
  refine ite2 (fun h => ?_) (fun h => ?_)
  · have e := int_eq h
    obtain rfl : i = 1 := by omega
    exact ⟨.int 1, rfl, q1 (by decide)⟩
  have n1 := int_ne h
  clear h
  refine ⟨_, rfl, rfl, _, rfl, ?_⟩
  refine ite2 (fun h => ?_) (fun h => ?_)
  · have e := int_eq h
    obtain rfl : i = 2 := by omega
    exact ⟨.int 1, rfl, q1 (by decide)⟩
  have n2 := int_ne h
  clear h
  refine ⟨_, rfl, rfl, _, rfl, ?_⟩
  refine ite2 (fun h => ?_) (fun h => ?_)
  · have e := int_eq h
    obtain rfl : i = 3 := by omega
    exact ⟨.int 1, rfl, q1 (by decide)⟩
  have n3 := int_ne h
  clear h
  refine ⟨_, rfl, rfl, _, rfl, ?_⟩
  refine ite2 (fun h => ?_) (fun h => ?_)
  · have e := int_eq h
    obtain rfl : i = 4 := by omega
    exact ⟨.int 1, rfl, q1 (by decide)⟩
  have n4 := int_ne h
  clear h
  refine ⟨_, rfl, rfl, _, rfl, ?_⟩
  refine ite2 (fun h => ?_) (fun h => ?_)
  · have e := int_eq h
    obtain rfl : i = 5 := by omega
    exact ⟨.int 1, rfl, q1 (by decide)⟩
  have n5 := int_ne h
  clear h
  refine ⟨_, rfl, rfl, _, rfl, ?_⟩
  refine ite2 (fun h => ?_) (fun h => ?_)
  · have e := int_eq h
    obtain rfl : i = 6 := by omega
    exact ⟨.int 1, rfl, q1 (by decide)⟩
  have n6 := int_ne h
  clear h
  refine ⟨_, rfl, rfl, _, rfl, ?_⟩
  refine ite2 (fun h => ?_) (fun h => ?_)
  · have e := int_eq h
    obtain rfl : i = 7 := by omega
    exact ⟨.int 1, rfl, q1 (by decide)⟩
  have n7 := int_ne h
  clear h
  refine ⟨_, rfl, rfl, _, rfl, ?_⟩
  refine ite2 (fun h => ?_) (fun h => ?_)
  · have e := int_eq h
    obtain rfl : i = 8 := by omega
    exact ⟨.int 1, rfl, q1 (by decide)⟩
  have n8 := int_ne h
  clear h
  exact q2 (by omega)

theorem scCaught : FnScope ["number"] ["number"] (defScope sCaught) := ⟨rfl, rfl, rfl, by decide +kernel, rfl, by decide +kernel, by decide +kernel⟩
theorem ok_caught {f fR CB : Addr} {fd fdR : FuncData} (F : Fun K "_law_caught" "_law_caught" sCaught f fd) (Ks : ∀ i, i < 12 → Kit K mg i (Cs i) (fs i) (fds i)) (K12 : Kit0 K mg (Cs 12) (fs 12) (fds 12)) (GR : FnOk P w K mg base (L2.CX P w) 3 fR fdR ["number"] (spRaised Cs))
    (mR : mg "_law_raised" = some (.ref fR)) (kR : PySem.W.keepIn K (.ref fR) = true) (bR : Binds K fdR ["number"] []) (mgB : mg "BlankError" = some (.ref CB)) (noKey : mg "KeyError" = none)
    (xB : ∀ i, i ≤ 12 → PySem.W.exmOne K (.ref (Cs i)) (.ref CB) = some (decide (i ≠ 11))) (xK : PySem.W.exmOne K (.ref (Cs 11)) (.type "KeyError") = some true) : FnOk P w K mg base CX0 4 f fd ["number"] spCaught := by
  refine F.ok scCaught (fun vs H Q E h => ?_) (fun cdv A outer s H vs Q E hr h => ?_)
  · obtain ⟨i, rfl, _⟩ := h
    rfl
  obtain ⟨i, rfl, hi, k⟩ := h
  have G : ∀ i, i < 12 → FnOk P w K mg base CX0 1 (fs i) (fds i) ["self", fldOf i] (spIni (Cs i) (fldOf i)) := fun i hi => ok_ini hi (Ks i hi)
  have hr2 : Room 2 _ := hr.mono (by decide)
  have hr1 : Room 1 _ := hr.mono (by decide)
  obtain ⟨pp, hb12⟩ := body12
  have k9 := Ks 9 (by decide)
  have k10 := Ks 10 (by decide)
  have k11 := Ks 11 (by decide)
  refine ⟨_, pss_one (ps_try_many rfl rfl takes0 (fun W pn xe tk _ => pss_cons (ps_expr (pe_callS GR hr rfl mR kR bR (fun σ => passAt tk σ) (pa_cons (pv 0) pa_nil)))
      (pss_cons (ps_if (pt_cmpR op_eq (pv 0) pe_int (nomark _)) (pss_one (ps_raise rfl tk (pmk_err k9.T k9.iC k9.tI (G 9 (by decide)) hr2 k9.b pass0 rfl k9.mgC (pa_cons pe_int pa_nil)))) pss_nil)
      (pss_cons (ps_if (pt_cmpR op_eq (pv 0) pe_int (nomark _)) (pss_one (ps_raise rfl tk (pmk_err k10.T k10.iC k10.tI (G 10 (by decide)) hr2 k10.b pass0 rfl k10.mgC (pa_cons pe_int pa_nil)))) pss_nil)
      (pss_cons (ps_if (pt_cmpR op_eq (pv 0) pe_int (nomark _)) (pss_one (ps_raise rfl tk (pmk_err k11.T k11.iC k11.tI (G 11 (by decide)) hr2 k11.b pass0 rfl k11.mgC (pa_cons pe_int pa_nil)))) pss_nil)
      (pss_one (ps_raise rfl tk (pmk_err0 K12.T K12.iC K12.tI K12.F hb12 sc12 loc12 K12.b hr1 rfl K12.mgC)))))))
    (.cons (c := .ref CB) ⟨rfl, by decide, .inl mgB⟩ (fun a oe cls d pn _ _ => pss_one (ps_ret pe_str)) (.cons (c := .type "KeyError") ⟨rfl, by decide, .inr ⟨noKey, by decide +kernel, by decide⟩⟩ (fun a oe cls d pn _ _ => pss_one (ps_ret pe_str)) .nil))), ?_⟩
  have kb : i ≠ 11 → ∀ H', Same H H' → Q (.str "blank") H' := fun e H' S => by
    have q := k H' S
    rw [if_neg e] at q
    exact q
  have kk : i = 11 → ∀ H', Same H H' → Q (.str "key") H' := fun e H' S => by
    have q := k H' S
    rw [if_pos e] at q
    exact q
  refine ⟨_, rfl, i, rfl, hi, fun h9 dx hdx => ?_, fun h9 => ?_⟩
  · exact ⟨_, xB i hi, fun _ a ha => kb (by omega) _ (new_same hdx), fun z => absurd (of_decide_eq_false z) (fun q => q (by omega))⟩
  refine ⟨_, rfl, rfl, _, rfl, ?_⟩
  refine ite2 (fun h => ?_) (fun h => ?_)
  · have e := int_eq h
    obtain rfl : i = 9 := by omega
    exact ⟨.int 1, rfl, fun dx hdx => ⟨_, xB 9 (by decide), fun _ a ha => kb (by decide) _ (new_same hdx), fun z => absurd (of_decide_eq_false z) (fun q => q (by decide))⟩⟩
  have n9 := int_ne h
  clear h
  refine ⟨_, rfl, rfl, _, rfl, ?_⟩
  refine ite2 (fun h => ?_) (fun h => ?_)
  · have e := int_eq h
    obtain rfl : i = 10 := by omega
    exact ⟨.int 1, rfl, fun dx hdx => ⟨_, xB 10 (by decide), fun _ a ha => kb (by decide) _ (new_same hdx), fun z => absurd (of_decide_eq_false z) (fun q => q (by decide))⟩⟩
  have n10 := int_ne h
  clear h
  refine ⟨_, rfl, rfl, _, rfl, ?_⟩
  refine ite2 (fun h => ?_) (fun h => ?_)
  · have e := int_eq h
    obtain rfl : i = 11 := by omega
    exact ⟨.int 1, rfl, fun dx hdx => ⟨_, xB 11 (by decide), fun z => absurd (of_decide_eq_true z) (fun q => q rfl), fun _ => ⟨_, xK, fun _ a ha => kk rfl _ (new_same hdx), fun z => nomatch z⟩⟩⟩
  have n11 := int_ne h
  obtain rfl : i = 12 := by omega
  exact ⟨_, xB 12 (by decide), fun _ a ha => kb (by decide) _ (Same.refl _), fun z => absurd (of_decide_eq_false z) (fun q => q (by decide))⟩
end
end K00
set_option Elab.async false
set_option linter.all false
set_option maxRecDepth 100000
set_option maxHeartbeats 4000000
namespace K00
open PySem PySem.Spec PyProof.Rows L2 Wb
abbrev sLaw : Stmt := topS 26
/-- an error with this number at a, its field v -/
structure Made (Cs : Nat → Addr) (H : Hp) (i : Nat) (v : V) (a : Addr) : Prop where
  one : i < 12 → ∃ dx, H a = some (exo a (Cs i) (some dx)) ∧ H dx = some (exd dx [(fldOf i, v)])
  last : i = 12 → H a = some (exo a (Cs 12) none)
theorem Made.same {Cs : Nat → Addr} {H H' : Hp} {i : Nat} {v : V} {a : Addr} (m : Made Cs H i v a) (s : Same H H') : Made Cs H' i v a :=
  ⟨fun h => by
    obtain ⟨dx, h1, h2⟩ := m.one h
    exact ⟨dx, s _ _ h1, s _ _ h2⟩, fun h => s _ _ (m.last h)⟩
theorem Made.err {Cs : Nat → Addr} {H : Hp} {i : Nat} {v : V} {a : Addr} (m : Made Cs H i v a) (hi : i ≤ 12) : ∃ od, IsErr Cs H i a od := by
  by_cases h : i < 12
  · obtain ⟨dx, h1, h2⟩ := m.one h
    refine ⟨some dx, h1, fun d e => ?_⟩
    cases e
    exact ⟨_, h2⟩
  · obtain rfl : i = 12 := by omega
    exact ⟨none, m.last rfl, fun d e => by cases e⟩
def keptOf (i : Nat) (v : V) : List V := if i < 12 then [v] else []
def spMade2 (Cs : Nat → Addr) : Sp := fun vs H Q _ => ∃ (i : Nat) (v : V) (nm : Bool), vs = [.int i, v, .bl nm] ∧ i ≤ 12 ∧ ∀ a H', Same H H' → Made Cs H' i v a → Q (.ref a) H'
def spKept2 (Cs : Nat → Addr) : Sp := fun vs H Q _ => ∃ (i : Nat) (v : V) (a : Addr), vs = [.int i, .ref a] ∧ i ≤ 12 ∧ Made Cs H i v a ∧ ∀ p, H p = none → Q (.ref p) (upd H p (.lst (keptOf i v)))
theorem made_two {Cs : Nat → Addr} : ∀ vs H Q E, spMade2 Cs vs H Q E → spMade Cs 0 vs H Q E := by
  rintro vs H Q E ⟨i, v, nm, rfl, hi, k⟩
  refine ⟨i, v, nm, rfl, Nat.zero_le _, hi, fun h a dx ha hd ne => ?_, fun h a ha => ?_⟩
  · refine k a _ ?_ ⟨fun _ => ⟨dx, upd_same, by rw [upd_ne ne, upd_same]⟩, fun e => absurd e (by omega)⟩
    intro b o z
    rw [upd_ne (ne_of_none z ha), upd_ne (ne_of_none z hd)]
    exact z
  · exact k a _ (new_same ha) ⟨fun e => absurd e (by omega), fun _ => upd_same⟩
theorem kept_two {Cs : Nat → Addr} : ∀ vs H Q E, spKept2 Cs vs H Q E → spKept Cs vs H Q E := by
  rintro vs H Q E ⟨i, v, a, rfl, hi, m, k⟩
  refine ⟨i, a, rfl, hi, fun h => ?_, fun h p hp => ?_⟩
  · obtain ⟨dx, h1, h2⟩ := m.one h
    refine ⟨dx, v, h1, h2, fun p hp => ?_⟩
    have q := k p hp
    unfold keptOf at q
    rw [if_pos h] at q
    exact q
  · have q := k p hp
    unfold keptOf at q
    rw [if_neg (by omega)] at q
    exact q

def spLaw (K : PySem.W.Frag) : Sp := fun vs H Q _ => ∃ (a : Addr) (ns : List Int), vs = [.ref a] ∧ SqL K H a (ns.map V.int) ∧ ns.length ≤ 63 ∧ ∀ H', Q (.bl true) H'
/-- what the top has written, for the law -/
structure Txt (P : Program) (w : World) (K : PySem.W.Frag) (mg : Str → Option Value) (base : Heap) (Cs : Nat → Addr) (CB fD fT fM fK fP fC : Addr) (dD dT dM dK dP dC : FuncData) : Prop where
  GD : FnOk P w K mg base CX0 1 fD dD ["script", "base"] (spDeal K)
  GT : FnOk P w K mg base CX0 6 fT dT ["deal", "depth"] (spThing K 3)
  GM : FnOk P w K mg base CX0 4 fM dM ["number", "thing", "named"] (spMade Cs 0)
  GK : FnOk P w K mg base CX0 1 fK dK ["e"] (spKinds Cs)
  GP : FnOk P w K mg base CX0 1 fP dP ["number", "e"] (spKept Cs)
  GC : FnOk P w K mg base CX0 4 fC dC ["number"] spCaught
  mD : mg "_law_deal" = some (.ref fD)
  mT : mg "_law_thing" = some (.ref fT)
  mM : mg "_law_made" = some (.ref fM)
  mK : mg "_law_kinds" = some (.ref fK)
  mP : mg "_law_kept" = some (.ref fP)
  mC : mg "_law_caught" = some (.ref fC)
  mB : mg "BlankError" = some (.ref CB)
  kD : PySem.W.keepIn K (.ref fD) = true
  kT : PySem.W.keepIn K (.ref fT) = true
  kM : PySem.W.keepIn K (.ref fM) = true
  kK : PySem.W.keepIn K (.ref fK) = true
  kP : PySem.W.keepIn K (.ref fP) = true
  kC : PySem.W.keepIn K (.ref fC) = true
  bD : Binds K dD ["script", "base"] []
  bT : Binds K dT ["deal", "depth"] []
  bM : Binds K dM ["number", "thing", "named"] []
  bK : Binds K dK ["e"] []
  bP : Binds K dP ["number", "e"] []
  bC : Binds K dC ["number"] []
  noRange : mg "range" = none
  noRepr : mg "repr" = none
  noIsi : mg "isinstance" = none
  noExc : mg "Exception" = none
  noVal : mg "ValueError" = none
  noKey : mg "KeyError" = none
  Ts : ∀ i, i ≤ 12 → ErrC K (Cs i)
  TB : ErrC K CB
  initB : PySem.W.findIn K (.ref CB) "__init__" = some (some (.builtin "Exception.__init__"))
  newB : ∃ (nm q : Str) (N : Addr) (bs bm : List Value) (sn : List Str) (sub : List Value) (ab : Bool) (col : Option Bool) (dd : Option Addr) (k0 k1 k2 k3 k5 : Option Value),
      K.lookup CB = some (excClassObj nm q CB N bs bm true sn sub ab col dd k0 k1 k2 k3 k5 "Exception.__new__") ∧ PySem.WbE.Chain bm "Exception" ∧
        ∀ X : String, bm.contains (.type X) = ([.type "Exception", .type "BaseException", .type "object"] : List Value).contains (.type X)
  xE : ∀ i, i ≤ 12 → PySem.W.kitOne K (.ref (Cs i)) (.type "Exception") = some true
  xV : ∀ i, i ≤ 12 → PySem.W.kitOne K (.ref (Cs i)) (.type "ValueError") = some false
  xK : ∀ i, i ≤ 12 → PySem.W.kitOne K (.ref (Cs i)) (.type "KeyError") = some (decide (i = 11))
  xB : ∀ i, i ≤ 12 → PySem.W.kitOne K (.ref (Cs i)) (.ref CB) = some (decide (i ≠ 11))
  bE : PySem.W.kitOne K (.ref CB) (.type "Exception") = some true
  bV : PySem.W.kitOne K (.ref CB) (.type "ValueError") = some false
  bKy : PySem.W.kitOne K (.ref CB) (.type "KeyError") = some false
section
variable {P : Program} {w : World} {K : PySem.W.Frag} {mg : Str → Option Value} {base : Heap} {Cs : Nat → Addr} {CB fD fT fM fK fP fC : Addr} {dD dT dM dK dP dC : FuncData}
theorem eqv_int1 (i : Int) : PyData.eqv (.list [.int i]) (.list [.int i]) = true := by simp [PyData.eqv, PyData.eqvAll]
theorem eqv_nil : PyData.eqv (.list []) (.list []) = true := by simp [PyData.eqv, PyData.eqvAll]
theorem shaped_int1 (i : Int) : SeqAt.shaped (.list [.int i]) = true := by simp [SeqAt.shaped, PyData.canLay0, PyData.canLayAll0, PyData.depth, PyData.depthAll]
theorem shaped_nil : SeqAt.shaped (.list []) = true := by simp [SeqAt.shaped, PyData.canLay0, PyData.canLayAll0, PyData.depth, PyData.depthAll]
theorem ne11 (i : Nat) : (!decide (V.bl (decide (i ≠ 11)) = V.bl (!decide (V.int (i : Int) = V.int 11)))) = false := by
  by_cases h : i = 11
  · subst h
    decide
  · have q : decide (V.int (i : Int) = V.int 11) = false := decide_eq_false fun z => h (by have q := V.int.inj z; omega)
    rw [q, decide_eq_true h]
    decide
theorem eq11 (i : Nat) : (!decide (V.bl (decide (i = 11)) = V.bl (decide (V.int (i : Int) = V.int 11)))) = false := by
  by_cases h : i = 11
  · subst h
    decide
  · have q : decide (V.int (i : Int) = V.int 11) = false := decide_eq_false fun z => h (by have q := V.int.inj z; omega)
    rw [q, decide_eq_false h]
    decide
theorem alike (x : Str) : ¬ (!decide (V.str x = V.str x)) = true := by simp
theorem okG0 {x qual : Str} {st : Stmt} {f : Addr} {fd : FuncData} {N ps : List Str} {k : Nat} {sp : Sp} (F : Fun K x qual st f fd) (S : FnScope N ps (defScope st)) (ar : ∀ vs H Q E, sp vs H Q E → vs.length = ps.length)
    (body : ∀ (cdv : Value) (A : Around) (outer : List Env) (s : Shared) (H : Hp) (vs : List V) (Q : VK) (E : XK),
      (A.deeper (envOfC qual (defScope st) s.heap.objs.size f cdv)).guards = some [] → Room k (A.deeper (envOfC qual (defScope st) s.heap.objs.size f cdv)) → sp vs H Q E →
      ∃ t, PSs (cxOf CX0 P w K mg base N qual (defScope st) f cdv A outer s H E).nox (defBody st) t ∧ t { nx := fun _ H' => Q .non H', rt := Q } (start N vs) H) :
    FnG P w K mg base CX0 (k + 1) f fd ps sp :=
  okG F S ar fun cdv A outer s H vs Q E g r h => by
    obtain ⟨t, d, q⟩ := body cdv A outer s H vs Q E g r h
    exact ⟨t, d.nox, q⟩
theorem scLaw : FnScope ["script", "deal", "number", "thing", "text", "named", "e", "other", "base"] ["script"] (defScope sLaw) := ⟨rfl, rfl, rfl, by decide +kernel, rfl, by decide +kernel, by decide +kernel⟩
theorem ok_law {f : Addr} {fd : FuncData} (F : Fun K "law" "law" sLaw f fd) (T : Txt P w K mg base Cs CB fD fT fM fK fP fC dD dT dM dK dP dC) : FnG P w K mg base CX0 7 f fd ["script"] (spLaw K) := by
  refine okG0 F scLaw (fun vs H Q E h => ?_) (fun cdv A outer s H vs Q E gd hr h => ?_)
  · obtain ⟨a, ns, rfl, _⟩ := h
    rfl
  obtain ⟨a, ns, rfl, hs, few, k⟩ := h
  have hr1 : Room 1 _ := hr.mono (by decide)
  have hr4 : Room 4 _ := hr.mono (by decide)
  have GM2 : FnOk P w K mg base CX0 4 fM dM ["number", "thing", "named"] (spMade2 Cs) := T.GM.imp made_two
  have GP2 : FnOk P w K mg base CX0 1 fP dP ["number", "e"] (spKept2 Cs) := T.GP.imp kept_two
  refine ⟨_, pss_cons (ps_set (i := 1) scLaw.nd rfl (Or.inl rfl) (pe_call T.GD hr1 rfl T.mD T.kD T.bD .nil pass0 (pa_cons (pv 0) (pa_cons pe_int pa_nil))))
    (pss_cons (ps_for PassesOwn.never rfl (pi_range1 rfl T.noRange (pa_cons pe_int pa_nil)) (pg_name (i := 2) scLaw.nd rfl (Or.inl rfl))
      (pss_cons (ps_set (i := 3) scLaw.nd rfl (Or.inl rfl) (pe_call T.GT hr rfl T.mT T.kT T.bT .nil pass0 (pa_cons (pv 1) (pa_cons pe_int pa_nil))))
      (pss_cons (ps_set (i := 4) scLaw.nd rfl (Or.inl rfl) (pe_callB (call_show gd hr.units) (by rfl) T.noRepr (by decide +kernel) (pa_cons (pv 3) pa_nil)))
      (pss_cons (ps_for PassesOwn.never rfl (pi_tup (pe_tup (pa_cons pe_bl (pa_cons pe_bl pa_nil)))) (pg_name (i := 5) scLaw.nd rfl (Or.inl rfl))
        (pss_cons (ps_par (i := 6) (j := 7) rfl scLaw.nd rfl rfl (by decide) rfl rfl (pa_cons (pe_call GM2 hr4 rfl T.mM T.kM T.bM .nil pass0 (pa_cons (pv 2) (pa_cons (pv 3) (pa_cons (pv 5) pa_nil)))) (pa_cons (pe_call GM2 hr4 rfl T.mM T.kM T.bM .nil pass0 (pa_cons (pv 2) (pa_cons pe_int (pa_cons (pv 5) pa_nil)))) pa_nil)) (by rfl))
        (pss_cons (ps_if (PW.pt (pw_or (pt_cmpR (op_neD hr.units) (pe_call T.GK hr1 rfl T.mK T.kK T.bK .nil pass0 (pa_cons (pv 6) pa_nil)) (pe_lst (pa_cons (pv 2) pa_nil)) (nomark _))
            (pw_or (pt_not (pt_val (pe_callB call_isErr (by rfl) T.noIsi (by decide +kernel) (pa_cons (pv 6) (pa_cons (pe_bltn (by rfl) T.noExc (by decide +kernel) (show RelV (.ty "Exception") (.type "Exception") from rfl)) pa_nil)))))
            (pw_or1 (pt_val (pe_callB call_isErr (by rfl) T.noIsi (by decide +kernel) (pa_cons (pv 6) (pa_cons (pe_bltn (by rfl) T.noVal (by decide +kernel) (show RelV (.ty "ValueError") (.type "ValueError") from rfl)) pa_nil)))))))) (pss_one (ps_ret pe_bl)) pss_nil)
        (pss_cons (ps_if (PW.pt (pw_or (pt_cmpR op_ne (pe_callB call_isErr (by rfl) T.noIsi (by decide +kernel) (pa_cons (pv 6) (pa_cons (pe_glob (by rfl) T.mB (show RelV (.ref CB) (.ref CB) from rfl)) pa_nil))) (pe_cmpR op_ne (pv 2) pe_int (nomark _)) (nomark _))
            (pw_or1 (pt_cmpR op_ne (pe_callB call_isErr (by rfl) T.noIsi (by decide +kernel) (pa_cons (pv 6) (pa_cons (pe_bltn (by rfl) T.noKey (by decide +kernel) (show RelV (.ty "KeyError") (.type "KeyError") from rfl)) pa_nil))) (pe_cmpR op_eq (pv 2) pe_int (nomark _)) (nomark _))))) (pss_one (ps_ret pe_bl)) pss_nil)
        (pss_cons (ps_if (PW.pt (pw_or (pt_cmpR op_ne (pe_callB (call_show gd hr.units) (by rfl) T.noRepr (by decide +kernel) (pa_cons (pe_call GP2 hr1 rfl T.mP T.kP T.bP .nil pass0 (pa_cons (pv 2) (pa_cons (pv 6) pa_nil))) pa_nil))
              (pe_callB (call_show gd hr.units) (by rfl) T.noRepr (by decide +kernel) (pa_cons (pe_ifExp (pt_cmpR op_eq (pv 2) pe_int (nomark _)) (pe_lst pa_nil) (pe_lst (pa_cons (pv 3) pa_nil))) pa_nil)) (nomark _))
            (pw_or1 (pt_cmpR op_ne (pe_callB (call_show gd hr.units) (by rfl) T.noRepr (by decide +kernel) (pa_cons (pv 3) pa_nil)) (pv 4) (nomark _))))) (pss_one (ps_ret pe_bl)) pss_nil)
        (pss_one (ps_if (pt_cmpR (op_neD hr.units) (pe_call GP2 hr1 rfl T.mP T.kP T.bP .nil pass0 (pa_cons (pv 2) (pa_cons (pv 7) pa_nil))) (pe_ifExp (pt_cmpR op_eq (pv 2) pe_int (nomark _)) (pe_lst pa_nil) (pe_lst (pa_cons pe_int pa_nil))) (nomark _)) (pss_one (ps_ret pe_bl)) pss_nil)))))))
      (pss_one (ps_if (pt_cmpR op_ne (pe_call T.GC hr4 rfl T.mC T.kC T.bC .nil pass0 (pa_cons (pv 2) pa_nil)) (pe_ifExp (pt_cmpR op_eq (pv 2) pe_int (nomark _)) pe_str pe_str) (nomark _)) (pss_one (ps_ret pe_bl)) pss_nil))))))
    (pss_cons (ps_set (i := 8) scLaw.nd rfl (Or.inl rfl) (pe_errB T.TB PySem.F.excBase_Exception T.initB T.newB rfl T.mB))
    (pss_one (ps_ret (pe_and (pe_callB call_isErr (by rfl) T.noIsi (by decide +kernel) (pa_cons (pv 8) (pa_cons (pe_bltn (by rfl) T.noExc (by decide +kernel) (show RelV (.ty "Exception") (.type "Exception") from rfl)) pa_nil)))
      (pe_and (pe_not (pe_callB call_isErr (by rfl) T.noIsi (by decide +kernel) (pa_cons (pv 8) (pa_cons (pe_bltn (by rfl) T.noVal (by decide +kernel) (show RelV (.ty "ValueError") (.type "ValueError") from rfl)) pa_nil))))
      (pe_one (pe_not (pe_callB call_isErr (by rfl) T.noIsi (by decide +kernel) (pa_cons (pv 8) (pa_cons (pe_bltn (by rfl) T.noKey (by decide +kernel) (show RelV (.ty "KeyError") (.type "KeyError") from rfl)) pa_nil))))))))))), ?_⟩
  -- the draw
  refine ⟨_, rfl, a, ns, 0, rfl, hs, few, by decide, by decide, fun d c H1 hd hc D S => ?_⟩
  dsimp only [gName]
  refine seqI (t1 := tFor _ _ _) (fun σ' J => ∃ v2 v3 v4 v5 v6 v7, σ' = [some (.ref a), some (.ref d), v2, v3, v4, v5, v6, v7, none]) ?end_ ?loop_
  case loop_ =>
   intro Z hZ
   refine ⟨13, rfl, by decide, by decide, ?_⟩
   refine for_range (lo := 0) (n := 13) (fun _ σ G => Deal G d c ∧ ∃ v2 v3 v4 v5 v6 v7, σ = [some (.ref a), some (.ref d), v2, v3, v4, v5, v6, v7, none]) ⟨D, _, _, _, _, _, _, rfl⟩ ?_ ?_
   · rintro i σ G hi13 ⟨DG, v2, v3, v4, v5, v6, v7, rfl⟩
     have hi : i ≤ 12 := by omega
     have e0 : ((0 : Int) + (i : Int)) = i := Int.zero_add _
     rw [e0]
     dsimp only [gName]
     -- the thing
     refine ⟨_, rfl, d, c, rfl, DG, fun v e H2 dv tv D2 S2 => ?_⟩
     have dv2 : Dp K (off H2 d c) v e := dpMono (nw_off DG) e v dv
     have len3 : e.depth ≤ 60 := Nat.le_trans tv.deep (by decide)
     have fits : e.shown.length ≤ sizeLine := tv.fits (by decide)
     refine ⟨_, rfl, v, e, rfl, dpMono (off_le H2 d c) e v dv2, tv.shows, tv.noDict, len3, fits, ?_⟩
     have dv3 : ∀ {J : Hp}, Same H2 J → Dp K J v e := fun s => dpMono ((off_le H2 d c).trans s) e v dv2
     have one : ∀ {J : Hp} {l : Addr}, Same H2 J → J l = some (.lst [v]) → Dp K J (.ref l) (.list [e]) := fun s at_ => .lst (SqL.of at_) (.cons (dv3 s) .nil)
     have tone : Tame 4 (1 * (wt 3 + 1)) (.list [e]) := TameAll.list (TameAll.cons tv TameAll.nil) (by simp)
     have tnil : Tame 1 (0 * (0 + 1)) (.list []) := TameAll.list (n := 0) (W := 0) TameAll.nil (by simp)
     clear S2 dv2
     -- by position and by name
     dsimp only [gName]
     refine seqI (t1 := tFor _ _ _) (fun σ' J => Deal J d c ∧ ∃ v5 v6 v7, σ' = [some (.ref a), some (.ref d), some (.int i), some v, some (.str e.shown), v5, v6, v7, none]) ?_ ?_
     · rintro σ' J ⟨DJ, v5, v6, v7, rfl⟩
       refine ⟨_, rfl, i, rfl, hi, fun J2 s2 => ?_⟩
       have out : Deal J2 d c := DJ.same s2
       refine ⟨_, rfl, rfl, _, rfl, ?_⟩
       by_cases h11 : i = 11
       · subst h11
         refine ⟨rfl, _, rfl, ?_⟩
         exact ⟨out, _, _, _, _, _, _, rfl⟩
       · have n11 : decide (V.int (i : Int) = V.int 11) = false := decide_eq_false fun z => h11 (by have q := V.int.inj z; omega)
         rw [n11, if_neg h11]
         refine ⟨rfl, _, rfl, ?_⟩
         exact ⟨out, _, _, _, _, _, _, rfl⟩
     · intro Z hZ
       refine ⟨(by show 2 ≤ sizeLine; decide), fun p hp => ⟨p, rfl, ⟨_, SqT.of upd_same⟩, ?_⟩⟩
       have Sp := new_same (o := .tup [.bl false, .bl true]) hp
       refine for_tup (xs := [.bl false, .bl true]) (fun _ σ' J => Same (upd H2 p (.tup [.bl false, .bl true])) J ∧ ∃ v5 v6 v7, σ' = [some (.ref a), some (.ref d), some (.int i), some v, some (.str e.shown), v5, v6, v7, none])
         ⟨Same.refl _, _, _, _, rfl⟩ (fun j σ' J _ q => seqT q.1 (SqT.of upd_same)) ?_ ?_
       · rintro j x σ' J hx ⟨SJ, v5, v6, v7, rfl⟩
         obtain ⟨b, rfl⟩ : ∃ b, x = .bl b := by
           have q := List.mem_of_getElem? hx
           simp only [List.mem_cons, List.not_mem_nil, or_false] at q
           rcases q with rfl | rfl
           · exact ⟨_, rfl⟩
           · exact ⟨_, rfl⟩
         clear hx
         dsimp only [gName]
         refine ⟨_, rfl, _, rfl, _, rfl, i, v, b, rfl, hi, fun a1 G1 s1 m1 => ?_⟩
         refine ⟨_, rfl, _, rfl, i, .int 5, b, rfl, hi, fun a2 G2 s2 m2 => ?_⟩
         refine ⟨.ref a1, .ref a2, rfl, ?_⟩
         have S2 : Same H2 G2 := ((Sp.trans SJ).trans s1).trans s2
         have SP : Same (upd H2 p (.tup [.bl false, .bl true])) G2 := (SJ.trans s1).trans s2
         have M1 : Made Cs G2 i v a1 := m1.same s2
         obtain ⟨od, ie⟩ := M1.err hi
         -- which errors it is one of
         dsimp only
         refine seqI (t1 := tIfS _ _ _) (fun σ' J => σ' = [some (.ref a), some (.ref d), some (.int i), some v, some (.str e.shown), some (.bl b), some (.ref a1), some (.ref a2), none] ∧ Same G2 J) ?rest1 ?first1
         case first1 =>
           intro Z hZ
           refine ⟨_, rfl, i, a1, od, rfl, hi, ie, fun q1 J1 hq1 t1 at1 => ⟨_, rfl, (by show 1 ≤ sizeLine; decide), fun l hl => ?_⟩⟩
           refine ⟨.list [.int i], .list [.int i], .lst (SqL.of (new_same hl _ _ at1)) (.cons (.int _) .nil), .lst (SqL.of upd_same) (.cons (.int _) .nil), shaped_int1 _, shaped_int1 _, _, rfl, ?_⟩
           have t2 := t1.trans (new_same (o := .lst [.int i]) hl)
           have ie2 := ie.same t2
           rw [eqv_int1]
           refine ite2 (fun h => absurd h (by decide)) (fun _ => ?_)
           refine ⟨_, rfl, a1, Cs i, od, _, _, _, rfl, ie2.at_, ie2.own, T.Ts i hi, .ty _, T.xE i hi, _, rfl, ?_⟩
           refine ite2 (fun h => absurd h (by decide)) (fun _ => ?_)
           refine ⟨_, rfl, a1, Cs i, od, _, _, _, rfl, ie2.at_, ie2.own, T.Ts i hi, .ty _, T.xV i hi, _, rfl, ?_⟩
           refine ite2 (fun h => absurd h (by decide)) (fun _ => ?_)
           exact hZ _ _ ⟨rfl, t2⟩
         rintro σ' J3 ⟨rfl, t3⟩
         have ie3 := ie.same t3
         -- by which it is caught
         refine seqI (t1 := tIfS _ _ _) (fun σ' J => σ' = [some (.ref a), some (.ref d), some (.int i), some v, some (.str e.shown), some (.bl b), some (.ref a1), some (.ref a2), none] ∧ Same G2 J) ?rest2 ?first2
         case first2 =>
           intro Z hZ
           refine ⟨_, rfl, a1, Cs i, od, _, _, _, rfl, ie3.at_, ie3.own, T.Ts i hi, .own _, T.xB i hi, _, rfl, rfl, rfl, _, rfl, ?_⟩
           rw [ne11]
           refine ite2 (fun h => absurd h (by decide)) (fun _ => ?_)
           refine ⟨_, rfl, a1, Cs i, od, _, _, _, rfl, ie3.at_, ie3.own, T.Ts i hi, .ty _, T.xK i hi, _, rfl, rfl, rfl, _, rfl, ?_⟩
           rw [eq11]
           refine ite2 (fun h => absurd h (by decide)) (fun _ => ?_)
           exact hZ _ _ ⟨rfl, t3⟩
         rintro σ' J4 ⟨rfl, t4⟩
         have M4 : Made Cs J4 i v a1 := M1.same t4
         -- what they keep
         refine seqI (t1 := tIfS _ _ _) (fun σ' J => σ' = [some (.ref a), some (.ref d), some (.int i), some v, some (.str e.shown), some (.bl b), some (.ref a1), some (.ref a2), none] ∧ Same G2 J) ?rest3 ?first3
         case first3 =>
           intro Z hZ
           refine ⟨_, rfl, _, rfl, i, v, a1, rfl, hi, M4, fun p1 hp1 => ?_⟩
           have u1 : Same J4 (upd J4 p1 (.lst (keptOf i v))) := new_same hp1
           have t5 := t4.trans u1
           by_cases h12 : i < 12
           · have ek : keptOf i v = [v] := if_pos h12
             refine ⟨.ref p1, .list [e], rfl, one (S2.trans t5) (by rw [upd_same, ek]), tone.shows, tone.noDict, Nat.le_trans tone.deep (by decide), tone.fits (by decide), ?_⟩
             refine ⟨_, rfl, rfl, _, rfl, ite2 (fun h => absurd (int_eq h) (by omega)) (fun _ => ?_)⟩
             refine ⟨_, rfl, (by show 1 ≤ sizeLine; decide), fun l hl => ?_⟩
             have t6 := t5.trans (new_same (o := .lst [v]) hl)
             refine ⟨.ref l, .list [e], rfl, one (S2.trans t6) upd_same, tone.shows, tone.noDict, Nat.le_trans tone.deep (by decide), tone.fits (by decide), rfl, _, rfl, ?_⟩
             refine ite2 (fun h => absurd h (alike _)) (fun _ => ?_)
             refine ⟨_, rfl, v, e, rfl, dv3 (S2.trans t6), tv.shows, tv.noDict, len3, fits, _, rfl, rfl, _, rfl, ?_⟩
             refine ite2 (fun h => absurd h (alike _)) (fun _ => ?_)
             exact hZ _ _ ⟨rfl, t6⟩
           · have ek : keptOf i v = [] := if_neg h12
             refine ⟨.ref p1, .list [], rfl, .lst (SqL.of (by rw [upd_same, ek])) .nil, tnil.shows, tnil.noDict, Nat.le_trans tnil.deep (by decide), tnil.fits (by decide), ?_⟩
             refine ⟨_, rfl, rfl, _, rfl, ite2 (fun _ => ?_) (fun h => absurd (by omega) (int_ne h))⟩
             refine ⟨(by show 0 ≤ sizeLine; decide), fun l hl => ?_⟩
             have t6 := t5.trans (new_same (o := .lst []) hl)
             refine ⟨.ref l, .list [], rfl, .lst (SqL.of upd_same) .nil, tnil.shows, tnil.noDict, Nat.le_trans tnil.deep (by decide), tnil.fits (by decide), rfl, _, rfl, ?_⟩
             refine ite2 (fun h => absurd h (alike _)) (fun _ => ?_)
             refine ⟨_, rfl, v, e, rfl, dv3 (S2.trans t6), tv.shows, tv.noDict, len3, fits, _, rfl, rfl, _, rfl, ?_⟩
             refine ite2 (fun h => absurd h (alike _)) (fun _ => ?_)
             exact hZ _ _ ⟨rfl, t6⟩
         rintro σ' J7 ⟨rfl, t7⟩
         have N7 : Made Cs J7 i (.int 5) a2 := m2.same t7
         refine ⟨_, rfl, _, rfl, i, .int 5, a2, rfl, hi, N7, fun p1 hp1 => ?_⟩
         have u1 : Same J7 (upd J7 p1 (.lst (keptOf i (.int 5)))) := new_same hp1
         have t8 := t7.trans u1
         by_cases h12 : i < 12
         · have ek : keptOf i (V.int 5) = [.int 5] := if_pos h12
           refine ⟨_, rfl, rfl, _, rfl, ite2 (fun h => absurd (int_eq h) (by omega)) (fun _ => ?_)⟩
           refine ⟨(by show 1 ≤ sizeLine; decide), fun l hl => ?_⟩
           have n1 := new_same (o := .lst [.int 5]) hl
           refine ⟨.list [.int 5], .list [.int 5], .lst (SqL.of (n1 _ _ (by rw [upd_same, ek]))) (.cons (.int _) .nil), .lst (SqL.of upd_same) (.cons (.int _) .nil), shaped_int1 _, shaped_int1 _, _, rfl, ?_⟩
           rw [eqv_int1]
           refine ite2 (fun h => absurd h (by decide)) (fun _ => ?_)
           exact ⟨SP.trans (t8.trans n1), _, _, _, rfl⟩
         · have ek : keptOf i (V.int 5) = [] := if_neg h12
           refine ⟨_, rfl, rfl, _, rfl, ite2 (fun _ => ?_) (fun h => absurd (by omega) (int_ne h))⟩
           refine ⟨(by show 0 ≤ sizeLine; decide), fun l hl => ?_⟩
           have n1 := new_same (o := .lst []) hl
           refine ⟨.list [], .list [], .lst (SqL.of (n1 _ _ (by rw [upd_same, ek]))) .nil, .lst (SqL.of upd_same) .nil, shaped_nil, shaped_nil, _, rfl, ?_⟩
           rw [eqv_nil]
           refine ite2 (fun h => absurd h (by decide)) (fun _ => ?_)
           exact ⟨SP.trans (t8.trans n1), _, _, _, rfl⟩
       · rintro σ' J ⟨SJ, v5, v6, v7, rfl⟩
         exact hZ _ _ ⟨D2.same (Sp.trans SJ), _, _, _, rfl⟩
   · rintro σ G ⟨DG, v2, v3, v4, v5, v6, v7, rfl⟩
     exact hZ _ _ ⟨_, _, _, _, _, _, rfl⟩
  case end_ =>
    rintro σ' J ⟨v2, v3, v4, v5, v6, v7, rfl⟩
    intro a0 ha0
    refine ⟨_, rfl, a0, CB, none, _, _, _, rfl, upd_same, (fun _ h => nomatch h), T.TB, .ty _, T.bE, _, rfl, ite2 (fun _ => ?_) (fun h => absurd rfl h)⟩
    refine ⟨_, rfl, a0, CB, none, _, _, _, rfl, upd_same, (fun _ h => nomatch h), T.TB, .ty _, T.bV, _, rfl, _, rfl, ite2 (fun _ => ?_) (fun h => absurd rfl h)⟩
    exact ⟨_, rfl, a0, CB, none, _, _, _, rfl, upd_same, (fun _ h => nomatch h), T.TB, .ty _, T.bKy, _, rfl, k _⟩
end
end K00
set_option Elab.async false
set_option linter.all false
set_option maxRecDepth 100000
set_option maxHeartbeats 4000000
namespace K00
open PySem PySem.Spec PyProof.Rows L2 Wb
section
variable {K : PySem.W.Frag}
/-- an own exception's class as the top has left it: what stands above it in its chain, and how it is made -/
def ClsRow (K : PySem.W.Frag) (C : Addr) (top : List Value) (newId : String) : Prop :=
  ∃ (nm q : Str) (N : Addr) (bs : List Value) (sn : List Str) (sub : List Value) (ab : Bool) (col : Option Bool) (dd : Option Addr) (k0 k1 k2 k3 k5 : Option Value),
    K.lookup C = some (excClassObj nm q C N bs top true sn sub ab col dd k0 k1 k2 k3 k5 newId)
structure EF (K : PySem.W.Frag) (C : Addr) (top : List Value) (newId : String) : Prop where
  row : ClsRow K C top newId
  sa : PySem.W.findIn K (.ref C) "__setattr__" = some (some (.builtin "object.__setattr__"))
  ga : PySem.W.findIn K (.ref C) "__getattribute__" = some (some (.builtin "BaseException.__getattribute__"))
  gg : PySem.W.findIn K (.ref C) "__getattr__" = some none
  exc : PySem.W.subIn K (.ref C) (.type "BaseException") = some true
  ty : PySem.W.typeIn K (.ref C) = some (.type "type")
  hd : PySem.W.hasDictIn K C = true
  kp : PySem.W.keepIn K (.ref C) = true
  hc : PySem.W.findIn K (.ref C) "__class__" = some (some (.builtin "object.__class__"))
  hm : PySem.W.mroIn K C (.type "object") = some true
theorem EF.err {C : Addr} {top : List Value} {newId B initId S : String} {bmB bmS : List Value} (e : EF K C top newId) (FB : PySem.ExcBaseFacts B newId initId bmB) (SF : PySem.StoreFacts S bmS "object.__setattr__" "object") (ch : PySem.WbE.Chain top B)
    (tl : PySem.W.excTail bmS top = true) (hn : PySem.W.specialIn K (.builtin "object.__class__") "__get__" = some (some (.builtin "getset_descriptor.__get__"))) (ht : PySem.W.takesIn K (.builtin "object.__class__") = some true) : ErrC K C := by
  obtain ⟨nm, q, N, bs, sn, sub, ab, col, dd, k0, k1, k2, k3, k5, xL⟩ := e.row
  refine ⟨⟨B, newId, initId, bmB, nm, q, N, bs, top, sn, sub, ab, col, dd, k0, k1, k2, k3, k5, FB, ch, xL⟩, ⟨S, bmS, SF, ?_⟩, e.sa, e.ga, e.gg, e.exc, e.ty, e.hd, e.kp, e.hc, hn, ht, e.hm⟩
  unfold PySem.W.excOver PySem.W.clsIn
  rw [xL]
  show (C == C && PySem.W.excTail bmS top) = true
  rw [tl]
  simp
/-- what is below what -/
structure Row (K : PySem.W.Frag) (C : Addr) (top : List Value) : Prop where
  sub : ∀ v, PySem.W.subIn K (.ref C) v = some ((Value.ref C :: top).contains v)
  cls : (PySem.W.clsIn K C).isSome = true
  ty : PySem.W.typeIn K (.ref C) = some (.type "type")
theorem EF.chain {C : Addr} {top : List Value} {newId : String} (e : EF K C top newId) : Row K C top := by
  obtain ⟨nm, q, N, bs, sn, sub, ab, col, dd, k0, k1, k2, k3, k5, xL⟩ := e.row
  refine ⟨fun v => ?_, ?_, e.ty⟩
  · show PySem.W.mroIn K C v = _
    unfold PySem.W.mroIn PySem.W.clsIn
    rw [xL]
    rfl
  · unfold PySem.W.clsIn
    rw [xL]
    rfl
theorem Row.one_ty {C : Addr} {top : List Value} {X : String} (r : Row K C top) (km : PySem.W.kitMeta X = true) : PySem.W.kitOne K (.ref C) (.type X) = some (top.contains (.type X)) := by
  unfold PySem.W.kitOne
  rw [if_neg (by simp)]
  show (if PySem.W.kitMeta X = true then PySem.W.subIn K (.ref C) (.type X) else none) = _
  rw [if_pos km, r.sub]
  simp
theorem Row.one_ref {C D : Addr} {top up : List Value} (r : Row K C top) (r2 : Row K D up) : PySem.W.kitOne K (.ref C) (.ref D) = some (decide (C = D) || top.contains (.ref D)) := by
  unfold PySem.W.kitOne
  by_cases h : C = D
  · subst h
    rw [if_pos (by simp)]
    simp
  · rw [if_neg (by simpa using h)]
    show (if ((PySem.W.clsIn K D).isSome && PySem.W.typeIn K (.ref D) == some (.type "type")) = true then PySem.W.subIn K (.ref C) (.ref D) else none) = _
    rw [r2.cls, r2.ty, if_pos (by simp), r.sub]
    have h' : ¬ D = C := fun e => h e.symm
    simp [h, h']
theorem Row.exm_ref {C D : Addr} {top up : List Value} (r : Row K C top) (r2 : Row K D up) (b : up.contains (.type "BaseException") = true) : PySem.W.exmOne K (.ref C) (.ref D) = some (decide (C = D) || top.contains (.ref D)) := by
  unfold PySem.W.exmOne
  rw [r2.sub, if_pos (by rw [List.contains_cons, b]; simp)]
  show (if ((PySem.W.clsIn K D).isSome && PySem.W.typeIn K (.ref D) == some (.type "type")) = true then PySem.W.subIn K (.ref C) (.ref D) else none) = _
  rw [r2.cls, r2.ty, if_pos (by simp), r.sub]
  by_cases h : C = D
  · subst h
    simp
  · have h' : ¬ D = C := fun e => h e.symm
    simp [h, h']
theorem Row.exm_ty {C : Addr} {top : List Value} {X : String} (r : Row K C top) (km : PySem.W.kitMeta X = true) (b : PySem.W.subIn K (.type X) (.type "BaseException") = some true) : PySem.W.exmOne K (.ref C) (.type X) = some (top.contains (.type X)) := by
  unfold PySem.W.exmOne
  rw [b, if_pos (by simp)]
  show (if PySem.W.kitMeta X = true then PySem.W.subIn K (.ref C) (.type X) else none) = _
  rw [if_pos km, r.sub]
  simp
/-- a def as the top has left it -/
def FnF (K : PySem.W.Frag) (nm q : Str) (st : Stmt) (f : Addr) : Prop := ∃ (oc : Value) (od : Option Addr) (kV dc pm : Value) (an : Option Addr) (cd ct : Value) (sl : Array (Option Value)),
  K.lookup f = some ⟨oc, od, .func (PySem.W.fnOf nm q (defArgs st) (defBody st) (defScope st) .none kV dc pm an cd ct), sl⟩ ∧ PySem.W.codeIn K cd q = true ∧ PySem.W.keepIn K (.ref f) = true
theorem FnF.mk2 {nm q : Str} {st : Stmt} {f : Addr} {oc : Value} {od : Option Addr} {kV dc pm : Value} {an : Option Addr} {cd ct : Value} {sl : Array (Option Value)}
    (l : K.lookup f = some ⟨oc, od, .func (PySem.W.fnOf nm q (defArgs st) (defBody st) (defScope st) .none kV dc pm an cd ct), sl⟩) (c : PySem.W.codeIn K cd q = true) (k : PySem.W.keepIn K (.ref f) = true) : FnF K nm q st f := ⟨oc, od, kV, dc, pm, an, cd, ct, sl, l, c, k⟩
theorem ClsRow.mk2 {C : Addr} {top : List Value} {newId : String} {nm q : Str} {N : Addr} {bs : List Value} {sn : List Str} {sub : List Value} {ab : Bool} {col : Option Bool} {dd : Option Addr} {k0 k1 k2 k3 k5 : Option Value}
    (l : K.lookup C = some (excClassObj nm q C N bs top true sn sub ab col dd k0 k1 k2 k3 k5 newId)) : ClsRow K C top newId := ⟨nm, q, N, bs, sn, sub, ab, col, dd, k0, k1, k2, k3, k5, l⟩
theorem FnF.fn {nm q : Str} {st : Stmt} {f : Addr} (h : FnF K nm q st f) : ∃ (kV dc pm : Value) (an : Option Addr) (cd ct : Value), Fun K nm q st f (PySem.W.fnOf nm q (defArgs st) (defBody st) (defScope st) .none kV dc pm an cd ct) := by
  obtain ⟨oc, od, kV, dc, pm, an, cd, ct, sl, l, c, k⟩ := h
  exact ⟨kV, dc, pm, an, cd, ct, fun_mk l c k⟩
theorem upto13 {i : Nat} (h : i ≤ 12) : i < 12 ∨ i = 12 := by omega
theorem kit_ex {mg : Str → Option Value} {i : Nat} {C f : Addr} (hi : i < 12) (T : ErrC K C) (mgC : mg (nmOf i) = some (.ref C)) (iC : PySem.W.findIn K (.ref C) "__init__" = some (some (.ref f))) (tI : PySem.W.typeIn K (.ref f) = some (.type "function"))
    (no : PySem.W.findIn K (.ref C) (fldOf i) = some none) (fn : FnF K "__init__" (qualOf i) (stOf i) f) : ∃ fd, Kit K mg i C f fd := by
  obtain ⟨kV, dc, pm, an, cd, ct, F⟩ := fn.fn
  refine ⟨_, T, mgC, iC, tI, no, F, ?_, ?_⟩
  · clear T mgC iC tI no fn
    rcases upto hi with rfl | rfl | rfl | rfl | rfl | rfl | rfl | rfl | rfl | rfl | rfl | rfl
    all_goals exact F.binds fun _ _ _ _ _ _ us hl => match us, hl with | [_, _], _ => rfl
  · clear T mgC iC tI no fn F
    intro s a v
    rcases upto hi with rfl | rfl | rfl | rfl | rfl | rfl | rfl | rfl | rfl | rfl | rfl | rfl
    all_goals exact .of_eq rfl
theorem kit0_ex {mg : Str → Option Value} {C f : Addr} (T : ErrC K C) (mgC : mg "InvalidCommand" = some (.ref C)) (iC : PySem.W.findIn K (.ref C) "__init__" = some (some (.ref f))) (tI : PySem.W.typeIn K (.ref f) = some (.type "function"))
    (fn : FnF K "__init__" "InvalidCommand.__init__" (stOf 12) f) : ∃ fd, Kit0 K mg C f fd := by
  obtain ⟨kV, dc, pm, an, cd, ct, F⟩ := fn.fn
  exact ⟨_, T, mgC, iC, tI, F, fun s v => .of_eq rfl⟩
end
def topE (CB : Addr) : List Value := [.ref CB, .type "Exception", .type "BaseException", .type "object"]
def topK : List Value := [.type "KeyError", .type "LookupError", .type "Exception", .type "BaseException", .type "object"]
def topB : List Value := [.type "Exception", .type "BaseException", .type "object"]
def topOf (CB : Addr) (i : Nat) : List Value := if i = 11 then topK else topE CB
section
variable {P : Program} {w : World} {K : PySem.W.Frag} {mg : Str → Option Value} {base : Heap}
theorem ok_thing {f fA fO : Addr} {fd fdA fdO : FuncData} (F : Fun K "_law_thing" "_law_thing" sThing f fd) (GA : FnOk P w K mg base CX0 1 fA fdA ["deal", "bound"] spAny) (mA : mg "_law_any" = some (.ref fA)) (kA : PySem.W.keepIn K (.ref fA) = true)
    (bA : Binds K fdA ["deal", "bound"] []) (GO : FnOk P w K mg base CX0 2 fO fdO ["deal", "some"] (spOf K)) (mO : mg "_law_of" = some (.ref fO)) (kO : PySem.W.keepIn K (.ref fO) = true) (bO : Binds K fdO ["deal", "some"] [])
    (mT : mg "_law_thing" = some (.ref f)) (bT : Binds K fd ["deal", "depth"] []) (noRange : mg "range" = none) (noTuple : mg "tuple" = none) : ∀ n, n ≤ 3 → FnOk P w K mg base CX0 (n + 2 + 1) f fd ["deal", "depth"] (spThing K n) := by
  intro n
  induction n using Nat.strongRecOn with
  | _ n ih =>
    intro hn
    refine thing_step hn F GA mA kA bA GO mO kO bO ⟨fun vs H Q E h => ?_, fun A outer s H args us vs Q E hr he hb hv h => ?_⟩ mT bT noRange noTuple
    · obtain ⟨m, hm, q⟩ := h
      exact (ih m hm (by omega)).len vs H Q E q
    · obtain ⟨m, hm, q⟩ := h
      exact ((ih m hm (by omega)).mono (by omega)).run A outer s H args us vs Q E hr he hb hv q
end
theorem nodup_at {l : List Addr} (h : l.Nodup) {i j : Nat} (hi : i < l.length) (hj : j < l.length) (e : l[i] = l[j]) : i = j := by
  have p := List.pairwise_iff_getElem.mp h
  rcases Nat.lt_trichotomy i j with q | q | q
  · exact absurd e (p i j hi hj q)
  · exact q
  · exact absurd e.symm (p j i hj hi q)
theorem all_mk {l : PySem.W.OpenLaw} {w : World} {K : PySem.W.Frag} {h : Heap} {mg : Str → Option Value} {fa CB C0 C1 C2 C3 C4 C5 C6 C7 C8 C9 C10 C11 C12 f0 f1 f2 f3 f4 f5 f6 f7 f8 f9 f10 f11 f12 gD gA gO gT gM gU gN gP gR gC gL : Addr}
    (X : K.In h) (G : h.Ns mainGlobals mg) (hfa : mg "law" = some (.ref fa))
    (aC0 : PySem.W.nsIn K mainGlobals "InvalidFraction" = some (some (.ref C0)))
    (aC1 : PySem.W.nsIn K mainGlobals "InvalidForm" = some (some (.ref C1)))
    (aC2 : PySem.W.nsIn K mainGlobals "InvalidBook" = some (some (.ref C2)))
    (aC3 : PySem.W.nsIn K mainGlobals "InvalidSheets" = some (some (.ref C3)))
    (aC4 : PySem.W.nsIn K mainGlobals "InvalidChart" = some (some (.ref C4)))
    (aC5 : PySem.W.nsIn K mainGlobals "InvalidMaker" = some (some (.ref C5)))
    (aC6 : PySem.W.nsIn K mainGlobals "InvalidWay" = some (some (.ref C6)))
    (aC7 : PySem.W.nsIn K mainGlobals "InvalidAsk" = some (some (.ref C7)))
    (aC8 : PySem.W.nsIn K mainGlobals "InvalidText" = some (some (.ref C8)))
    (aC9 : PySem.W.nsIn K mainGlobals "InvalidSize" = some (some (.ref C9)))
    (aC10 : PySem.W.nsIn K mainGlobals "Refused" = some (some (.ref C10)))
    (aC11 : PySem.W.nsIn K mainGlobals "NoName" = some (some (.ref C11)))
    (aC12 : PySem.W.nsIn K mainGlobals "InvalidCommand" = some (some (.ref C12)))
    (aCB : PySem.W.nsIn K mainGlobals "BlankError" = some (some (.ref CB)))
    (hnd : ([CB, C0, C1, C2, C3, C4, C5, C6, C7, C8, C9, C10, C11, C12] : List Addr).Nodup)
    (e0 : EF K C0 (topE CB) "Exception.__new__") (a0 : PySem.W.findIn K (.ref C0) "__init__" = some (some (.ref f0))) (t0 : PySem.W.typeIn K (.ref f0) = some (.type "function"))
    (no0 : PySem.W.findIn K (.ref C0) "at" = some none)
    (l0 : FnF K "__init__" "InvalidFraction.__init__" (inClass (topS 2) 0) f0)
    (e1 : EF K C1 (topE CB) "Exception.__new__") (a1 : PySem.W.findIn K (.ref C1) "__init__" = some (some (.ref f1))) (t1 : PySem.W.typeIn K (.ref f1) = some (.type "function"))
    (no1 : PySem.W.findIn K (.ref C1) "at" = some none)
    (l1 : FnF K "__init__" "InvalidForm.__init__" (inClass (topS 3) 0) f1)
    (e2 : EF K C2 (topE CB) "Exception.__new__") (a2 : PySem.W.findIn K (.ref C2) "__init__" = some (some (.ref f2))) (t2 : PySem.W.typeIn K (.ref f2) = some (.type "function"))
    (no2 : PySem.W.findIn K (.ref C2) "at" = some none)
    (l2 : FnF K "__init__" "InvalidBook.__init__" (inClass (topS 4) 0) f2)
    (e3 : EF K C3 (topE CB) "Exception.__new__") (a3 : PySem.W.findIn K (.ref C3) "__init__" = some (some (.ref f3))) (t3 : PySem.W.typeIn K (.ref f3) = some (.type "function"))
    (no3 : PySem.W.findIn K (.ref C3) "at" = some none)
    (l3 : FnF K "__init__" "InvalidSheets.__init__" (inClass (topS 5) 0) f3)
    (e4 : EF K C4 (topE CB) "Exception.__new__") (a4 : PySem.W.findIn K (.ref C4) "__init__" = some (some (.ref f4))) (t4 : PySem.W.typeIn K (.ref f4) = some (.type "function"))
    (no4 : PySem.W.findIn K (.ref C4) "at" = some none)
    (l4 : FnF K "__init__" "InvalidChart.__init__" (inClass (topS 6) 0) f4)
    (e5 : EF K C5 (topE CB) "Exception.__new__") (a5 : PySem.W.findIn K (.ref C5) "__init__" = some (some (.ref f5))) (t5 : PySem.W.typeIn K (.ref f5) = some (.type "function"))
    (no5 : PySem.W.findIn K (.ref C5) "at" = some none)
    (l5 : FnF K "__init__" "InvalidMaker.__init__" (inClass (topS 7) 0) f5)
    (e6 : EF K C6 (topE CB) "Exception.__new__") (a6 : PySem.W.findIn K (.ref C6) "__init__" = some (some (.ref f6))) (t6 : PySem.W.typeIn K (.ref f6) = some (.type "function"))
    (no6 : PySem.W.findIn K (.ref C6) "at" = some none)
    (l6 : FnF K "__init__" "InvalidWay.__init__" (inClass (topS 8) 0) f6)
    (e7 : EF K C7 (topE CB) "Exception.__new__") (a7 : PySem.W.findIn K (.ref C7) "__init__" = some (some (.ref f7))) (t7 : PySem.W.typeIn K (.ref f7) = some (.type "function"))
    (no7 : PySem.W.findIn K (.ref C7) "at" = some none)
    (l7 : FnF K "__init__" "InvalidAsk.__init__" (inClass (topS 9) 0) f7)
    (e8 : EF K C8 (topE CB) "Exception.__new__") (a8 : PySem.W.findIn K (.ref C8) "__init__" = some (some (.ref f8))) (t8 : PySem.W.typeIn K (.ref f8) = some (.type "function"))
    (no8 : PySem.W.findIn K (.ref C8) "at" = some none)
    (l8 : FnF K "__init__" "InvalidText.__init__" (inClass (topS 10) 0) f8)
    (e9 : EF K C9 (topE CB) "Exception.__new__") (a9 : PySem.W.findIn K (.ref C9) "__init__" = some (some (.ref f9))) (t9 : PySem.W.typeIn K (.ref f9) = some (.type "function"))
    (no9 : PySem.W.findIn K (.ref C9) "word" = some none)
    (l9 : FnF K "__init__" "InvalidSize.__init__" (inClass (topS 11) 0) f9)
    (e10 : EF K C10 (topE CB) "Exception.__new__") (a10 : PySem.W.findIn K (.ref C10) "__init__" = some (some (.ref f10))) (t10 : PySem.W.typeIn K (.ref f10) = some (.type "function"))
    (no10 : PySem.W.findIn K (.ref C10) "word" = some none)
    (l10 : FnF K "__init__" "Refused.__init__" (inClass (topS 13) 0) f10)
    (e11 : EF K C11 topK "LookupError.__new__") (a11 : PySem.W.findIn K (.ref C11) "__init__" = some (some (.ref f11))) (t11 : PySem.W.typeIn K (.ref f11) = some (.type "function"))
    (no11 : PySem.W.findIn K (.ref C11) "name" = some none)
    (l11 : FnF K "__init__" "NoName.__init__" (inClass (topS 14) 0) f11)
    (e12 : EF K C12 (topE CB) "Exception.__new__") (a12 : PySem.W.findIn K (.ref C12) "__init__" = some (some (.ref f12))) (t12 : PySem.W.typeIn K (.ref f12) = some (.type "function"))
    (l12 : FnF K "__init__" "InvalidCommand.__init__" (inClass (topS 12) 0) f12)
    (eB : EF K CB topB "Exception.__new__") (aB : PySem.W.findIn K (.ref CB) "__init__" = some (some (.builtin "Exception.__init__")))
    (hn : PySem.W.specialIn K (.builtin "object.__class__") "__get__" = some (some (.builtin "getset_descriptor.__get__"))) (ht : PySem.W.takesIn K (.builtin "object.__class__") = some true)
    (zD : PySem.W.nsIn K mainGlobals "_law_deal" = some (some (.ref gD))) (yD : FnF K "_law_deal" "_law_deal" sDeal gD)
    (zA : PySem.W.nsIn K mainGlobals "_law_any" = some (some (.ref gA))) (yA : FnF K "_law_any" "_law_any" sAny gA)
    (zO : PySem.W.nsIn K mainGlobals "_law_of" = some (some (.ref gO))) (yO : FnF K "_law_of" "_law_of" sOf gO)
    (zT : PySem.W.nsIn K mainGlobals "_law_thing" = some (some (.ref gT))) (yT : FnF K "_law_thing" "_law_thing" sThing gT)
    (zM : PySem.W.nsIn K mainGlobals "_law_made" = some (some (.ref gM))) (yM : FnF K "_law_made" "_law_made" sMade gM)
    (zU : PySem.W.nsIn K mainGlobals "_law_other" = some (some (.ref gU))) (yU : FnF K "_law_other" "_law_other" sOther gU)
    (zN : PySem.W.nsIn K mainGlobals "_law_kinds" = some (some (.ref gN))) (yN : FnF K "_law_kinds" "_law_kinds" sKinds gN)
    (zP : PySem.W.nsIn K mainGlobals "_law_kept" = some (some (.ref gP))) (yP : FnF K "_law_kept" "_law_kept" sKept gP)
    (zR : PySem.W.nsIn K mainGlobals "_law_raised" = some (some (.ref gR))) (yR : FnF K "_law_raised" "_law_raised" sRaised gR)
    (zC : PySem.W.nsIn K mainGlobals "_law_caught" = some (some (.ref gC))) (yC : FnF K "_law_caught" "_law_caught" sCaught gC)
    (zL : PySem.W.nsIn K mainGlobals "law" = some (some (.ref gL))) (yL : FnF K "law" "law" sLaw gL)
    (o_int : PySem.W.nsIn K mainGlobals "int" = some none)
    (o_abs : PySem.W.nsIn K mainGlobals "abs" = some none)
    (o_len : PySem.W.nsIn K mainGlobals "len" = some none)
    (o_range : PySem.W.nsIn K mainGlobals "range" = some none)
    (o_tuple : PySem.W.nsIn K mainGlobals "tuple" = some none)
    (o_repr : PySem.W.nsIn K mainGlobals "repr" = some none)
    (o_isinstance : PySem.W.nsIn K mainGlobals "isinstance" = some none)
    (o_Exception : PySem.W.nsIn K mainGlobals "Exception" = some none)
    (o_ValueError : PySem.W.nsIn K mainGlobals "ValueError" = some none)
    (o_KeyError : PySem.W.nsIn K mainGlobals "KeyError" = some none) :
    ∃ fd : FuncData, (∀ (s : Shared) (v : Value), BindsTo s fd ⟨[v], []⟩ [("script", v)]) ∧ ∀ base : Heap, K.In base → base.Ns mainGlobals mg → FnG l.prog w K mg base CX0 7 fa fd ["script"] (spLaw K) := by
  have e := hfa.symm.trans (PySem.W.mg_of X G zL)
  cases e
  have T0 : ErrC K C0 := e0.err PySem.F.excBase_Exception PySem.F.store_Exception ⟨rfl, rfl, rfl⟩ rfl hn ht
  have T1 : ErrC K C1 := e1.err PySem.F.excBase_Exception PySem.F.store_Exception ⟨rfl, rfl, rfl⟩ rfl hn ht
  have T2 : ErrC K C2 := e2.err PySem.F.excBase_Exception PySem.F.store_Exception ⟨rfl, rfl, rfl⟩ rfl hn ht
  have T3 : ErrC K C3 := e3.err PySem.F.excBase_Exception PySem.F.store_Exception ⟨rfl, rfl, rfl⟩ rfl hn ht
  have T4 : ErrC K C4 := e4.err PySem.F.excBase_Exception PySem.F.store_Exception ⟨rfl, rfl, rfl⟩ rfl hn ht
  have T5 : ErrC K C5 := e5.err PySem.F.excBase_Exception PySem.F.store_Exception ⟨rfl, rfl, rfl⟩ rfl hn ht
  have T6 : ErrC K C6 := e6.err PySem.F.excBase_Exception PySem.F.store_Exception ⟨rfl, rfl, rfl⟩ rfl hn ht
  have T7 : ErrC K C7 := e7.err PySem.F.excBase_Exception PySem.F.store_Exception ⟨rfl, rfl, rfl⟩ rfl hn ht
  have T8 : ErrC K C8 := e8.err PySem.F.excBase_Exception PySem.F.store_Exception ⟨rfl, rfl, rfl⟩ rfl hn ht
  have T9 : ErrC K C9 := e9.err PySem.F.excBase_Exception PySem.F.store_Exception ⟨rfl, rfl, rfl⟩ rfl hn ht
  have T10 : ErrC K C10 := e10.err PySem.F.excBase_Exception PySem.F.store_Exception ⟨rfl, rfl, rfl⟩ rfl hn ht
  have T11 : ErrC K C11 := e11.err PySem.F.excBase_LookupError PySem.F.storeKeyError ⟨by decide, by decide, by decide⟩ rfl hn ht
  have T12 : ErrC K C12 := e12.err PySem.F.excBase_Exception PySem.F.store_Exception ⟨rfl, rfl, rfl⟩ rfl hn ht
  have TB : ErrC K CB := eB.err PySem.F.excBase_Exception PySem.F.store_Exception ⟨by decide, by decide, by decide⟩ rfl hn ht
  obtain ⟨d0, k0⟩ : ∃ fd, Kit K mg 0 C0 f0 fd := kit_ex (by decide) T0 (PySem.W.mg_of X G aC0) a0 t0 no0 l0
  obtain ⟨d1, k1⟩ : ∃ fd, Kit K mg 1 C1 f1 fd := kit_ex (by decide) T1 (PySem.W.mg_of X G aC1) a1 t1 no1 l1
  obtain ⟨d2, k2⟩ : ∃ fd, Kit K mg 2 C2 f2 fd := kit_ex (by decide) T2 (PySem.W.mg_of X G aC2) a2 t2 no2 l2
  obtain ⟨d3, k3⟩ : ∃ fd, Kit K mg 3 C3 f3 fd := kit_ex (by decide) T3 (PySem.W.mg_of X G aC3) a3 t3 no3 l3
  obtain ⟨d4, k4⟩ : ∃ fd, Kit K mg 4 C4 f4 fd := kit_ex (by decide) T4 (PySem.W.mg_of X G aC4) a4 t4 no4 l4
  obtain ⟨d5, k5⟩ : ∃ fd, Kit K mg 5 C5 f5 fd := kit_ex (by decide) T5 (PySem.W.mg_of X G aC5) a5 t5 no5 l5
  obtain ⟨d6, k6⟩ : ∃ fd, Kit K mg 6 C6 f6 fd := kit_ex (by decide) T6 (PySem.W.mg_of X G aC6) a6 t6 no6 l6
  obtain ⟨d7, k7⟩ : ∃ fd, Kit K mg 7 C7 f7 fd := kit_ex (by decide) T7 (PySem.W.mg_of X G aC7) a7 t7 no7 l7
  obtain ⟨d8, k8⟩ : ∃ fd, Kit K mg 8 C8 f8 fd := kit_ex (by decide) T8 (PySem.W.mg_of X G aC8) a8 t8 no8 l8
  obtain ⟨d9, k9⟩ : ∃ fd, Kit K mg 9 C9 f9 fd := kit_ex (by decide) T9 (PySem.W.mg_of X G aC9) a9 t9 no9 l9
  obtain ⟨d10, k10⟩ : ∃ fd, Kit K mg 10 C10 f10 fd := kit_ex (by decide) T10 (PySem.W.mg_of X G aC10) a10 t10 no10 l10
  obtain ⟨d11, k11⟩ : ∃ fd, Kit K mg 11 C11 f11 fd := kit_ex (by decide) T11 (PySem.W.mg_of X G aC11) a11 t11 no11 l11
  obtain ⟨d12, k12⟩ : ∃ fd, Kit0 K mg C12 f12 fd := kit0_ex T12 (PySem.W.mg_of X G aC12) a12 t12 l12
  let Cs : Nat → Addr := fun i => ([C0, C1, C2, C3, C4, C5, C6, C7, C8, C9, C10, C11, C12] : List Addr).getD i 0
  let fs : Nat → Addr := fun i => ([f0, f1, f2, f3, f4, f5, f6, f7, f8, f9, f10, f11, f12] : List Addr).getD i 0
  let fds : Nat → FuncData := fun i => ([d0, d1, d2, d3, d4, d5, d6, d7, d8, d9, d10, d11, d12] : List FuncData).getD i d0
  have Ks : ∀ i, i < 12 → Kit K mg i (Cs i) (fs i) (fds i) := by
    intro i hi
    rcases upto hi with rfl | rfl | rfl | rfl | rfl | rfl | rfl | rfl | rfl | rfl | rfl | rfl
    · exact k0
    · exact k1
    · exact k2
    · exact k3
    · exact k4
    · exact k5
    · exact k6
    · exact k7
    · exact k8
    · exact k9
    · exact k10
    · exact k11
  have Ts : ∀ i, i ≤ 12 → ErrC K (Cs i) := by
    intro i hi
    rcases upto13 hi with hi | rfl
    · rcases upto hi with rfl | rfl | rfl | rfl | rfl | rfl | rfl | rfl | rfl | rfl | rfl | rfl
      · exact T0
      · exact T1
      · exact T2
      · exact T3
      · exact T4
      · exact T5
      · exact T6
      · exact T7
      · exact T8
      · exact T9
      · exact T10
      · exact T11
    · exact T12
  have mgs : ∀ i, i ≤ 12 → mg (nmOf i) = some (.ref (Cs i)) := by
    intro i hi
    rcases upto13 hi with hi | rfl
    · rcases upto hi with rfl | rfl | rfl | rfl | rfl | rfl | rfl | rfl | rfl | rfl | rfl | rfl
      · exact PySem.W.mg_of X G aC0
      · exact PySem.W.mg_of X G aC1
      · exact PySem.W.mg_of X G aC2
      · exact PySem.W.mg_of X G aC3
      · exact PySem.W.mg_of X G aC4
      · exact PySem.W.mg_of X G aC5
      · exact PySem.W.mg_of X G aC6
      · exact PySem.W.mg_of X G aC7
      · exact PySem.W.mg_of X G aC8
      · exact PySem.W.mg_of X G aC9
      · exact PySem.W.mg_of X G aC10
      · exact PySem.W.mg_of X G aC11
    · exact PySem.W.mg_of X G aC12
  have Rs : ∀ i, i ≤ 12 → Row K (Cs i) (topOf CB i) := by
    intro i hi
    rcases upto13 hi with hi | rfl
    · rcases upto hi with rfl | rfl | rfl | rfl | rfl | rfl | rfl | rfl | rfl | rfl | rfl | rfl
      · exact e0.chain
      · exact e1.chain
      · exact e2.chain
      · exact e3.chain
      · exact e4.chain
      · exact e5.chain
      · exact e6.chain
      · exact e7.chain
      · exact e8.chain
      · exact e9.chain
      · exact e10.chain
      · exact e11.chain
    · exact e12.chain
  have RB : Row K CB topB := eB.chain
  have inj : ∀ i j, i ≤ 12 → j ≤ 12 → Cs i = Cs j → i = j := by
    intro i j hi hj e
    have hl : ([C0, C1, C2, C3, C4, C5, C6, C7, C8, C9, C10, C11, C12] : List Addr).length = 13 := rfl
    refine nodup_at (List.nodup_cons.mp hnd).2 (i := i) (j := j) (by omega) (by omega) ?_
    have e1 : ∀ n (hn : n < ([C0, C1, C2, C3, C4, C5, C6, C7, C8, C9, C10, C11, C12] : List Addr).length), Cs n = ([C0, C1, C2, C3, C4, C5, C6, C7, C8, C9, C10, C11, C12] : List Addr)[n] := fun n hn => by
      show List.getD _ n 0 = _
      rw [List.getD_eq_getElem?_getD, List.getElem?_eq_getElem hn]
      rfl
    rw [← e1 i (by omega), ← e1 j (by omega)]
    exact e
  have notB : ∀ i, i ≤ 12 → Cs i ≠ CB := by
    intro i hi e
    refine (List.nodup_cons.mp hnd).1 ?_
    rw [← e]
    show List.getD _ i 0 ∈ _
    rw [List.getD_eq_getElem?_getD, List.getElem?_eq_getElem (by show i < 13; omega)]
    exact List.getElem_mem _
  have inTop : ∀ i D, (topOf CB i).contains (.ref D) = (decide (i ≠ 11) && decide (D = CB)) := by
    intro i D
    unfold topOf
    by_cases h : i = 11
    · rw [if_pos h]
      simp [topK, h]
    · rw [if_neg h]
      simp [topE, h]
  have tyTop : ∀ i (x : String), (topOf CB i).contains (.type x) = (if i = 11 then topK else topB).contains (.type x) := by
    intro i x
    unfold topOf
    by_cases h : i = 11
    · rw [if_pos h, if_pos h]
    · rw [if_neg h, if_neg h]
      simp [topE, topB]
  have kk : ∀ i j, i ≤ 12 → j ≤ 12 → PySem.W.kitOne K (.ref (Cs i)) (.ref (Cs j)) = some (decide (i = j)) := by
    intro i j hi hj
    rw [(Rs i hi).one_ref (Rs j hj), inTop, decide_eq_false (notB j hj), Bool.and_false, Bool.or_false]
    by_cases h : i = j
    · subst h
      simp
    · rw [decide_eq_false h, decide_eq_false fun e => h (inj i j hi hj e)]
  have xE : ∀ i, i ≤ 12 → PySem.W.kitOne K (.ref (Cs i)) (.type "Exception") = some true := by
    intro i hi
    rw [(Rs i hi).one_ty (by decide +kernel), tyTop]
    by_cases h : i = 11
    · rw [if_pos h]
      rfl
    · rw [if_neg h]
      rfl
  have xV : ∀ i, i ≤ 12 → PySem.W.kitOne K (.ref (Cs i)) (.type "ValueError") = some false := by
    intro i hi
    rw [(Rs i hi).one_ty (by decide +kernel), tyTop]
    by_cases h : i = 11
    · rw [if_pos h]
      rfl
    · rw [if_neg h]
      rfl
  have xK : ∀ i, i ≤ 12 → PySem.W.kitOne K (.ref (Cs i)) (.type "KeyError") = some (decide (i = 11)) := by
    intro i hi
    rw [(Rs i hi).one_ty (by decide +kernel), tyTop]
    by_cases h : i = 11
    · rw [if_pos h, decide_eq_true h]
      rfl
    · rw [if_neg h, decide_eq_false h]
      rfl
  have xB : ∀ i, i ≤ 12 → PySem.W.kitOne K (.ref (Cs i)) (.ref CB) = some (decide (i ≠ 11)) := by
    intro i hi
    rw [(Rs i hi).one_ref RB, inTop, decide_eq_false (notB i hi), Bool.false_or, decide_eq_true (rfl : CB = CB), Bool.and_true]
  have mB : ∀ i, i ≤ 12 → PySem.W.exmOne K (.ref (Cs i)) (.ref CB) = some (decide (i ≠ 11)) := by
    intro i hi
    rw [(Rs i hi).exm_ref RB (by decide), inTop, decide_eq_false (notB i hi), Bool.false_or, decide_eq_true (rfl : CB = CB), Bool.and_true]
  have mK : PySem.W.exmOne K (.ref (Cs 11)) (.type "KeyError") = some true := by
    rw [(Rs 11 (by decide)).exm_ty (by decide +kernel) (by kernel_rfl), tyTop]
    rfl
  obtain ⟨kVD, dcD, pmD, anD, cdD, ctD, FD⟩ := yD.fn
  obtain ⟨kVA, dcA, pmA, anA, cdA, ctA, FA⟩ := yA.fn
  obtain ⟨kVO, dcO, pmO, anO, cdO, ctO, FO⟩ := yO.fn
  obtain ⟨kVT, dcT, pmT, anT, cdT, ctT, FT⟩ := yT.fn
  obtain ⟨kVM, dcM, pmM, anM, cdM, ctM, FM⟩ := yM.fn
  obtain ⟨kVU, dcU, pmU, anU, cdU, ctU, FU⟩ := yU.fn
  obtain ⟨kVN, dcN, pmN, anN, cdN, ctN, FN⟩ := yN.fn
  obtain ⟨kVP, dcP, pmP, anP, cdP, ctP, FP⟩ := yP.fn
  obtain ⟨kVR, dcR, pmR, anR, cdR, ctR, FR⟩ := yR.fn
  obtain ⟨kVC, dcC, pmC, anC, cdC, ctC, FC⟩ := yC.fn
  obtain ⟨kVL, dcL, pmL, anL, cdL, ctL, FL⟩ := yL.fn
  have bD := FD.binds (ps := ["script", "base"]) fun _ _ _ _ _ _ us hl => match us, hl with | [_, _], _ => rfl
  have bA := FA.binds (ps := ["deal", "bound"]) fun _ _ _ _ _ _ us hl => match us, hl with | [_, _], _ => rfl
  have bO := FO.binds (ps := ["deal", "some"]) fun _ _ _ _ _ _ us hl => match us, hl with | [_, _], _ => rfl
  have bT := FT.binds (ps := ["deal", "depth"]) fun _ _ _ _ _ _ us hl => match us, hl with | [_, _], _ => rfl
  have bM := FM.binds (ps := ["number", "thing", "named"]) fun _ _ _ _ _ _ us hl => match us, hl with | [_, _, _], _ => rfl
  have bU := FU.binds (ps := ["number", "thing", "named"]) fun _ _ _ _ _ _ us hl => match us, hl with | [_, _, _], _ => rfl
  have bN := FN.binds (ps := ["e"]) fun _ _ _ _ _ _ us hl => match us, hl with | [_], _ => rfl
  have bP := FP.binds (ps := ["number", "e"]) fun _ _ _ _ _ _ us hl => match us, hl with | [_, _], _ => rfl
  have bR := FR.binds (ps := ["number"]) fun _ _ _ _ _ _ us hl => match us, hl with | [_], _ => rfl
  have bC := FC.binds (ps := ["number"]) fun _ _ _ _ _ _ us hl => match us, hl with | [_], _ => rfl
  have mD := PySem.W.mg_of X G zD
  have mA := PySem.W.mg_of X G zA
  have mO := PySem.W.mg_of X G zO
  have mT := PySem.W.mg_of X G zT
  have mM := PySem.W.mg_of X G zM
  have mU := PySem.W.mg_of X G zU
  have mN := PySem.W.mg_of X G zN
  have mP := PySem.W.mg_of X G zP
  have mR := PySem.W.mg_of X G zR
  have mC := PySem.W.mg_of X G zC
  have n_int := PySem.W.mg_none_of X G o_int
  have n_abs := PySem.W.mg_none_of X G o_abs
  have n_len := PySem.W.mg_none_of X G o_len
  have n_range := PySem.W.mg_none_of X G o_range
  have n_tuple := PySem.W.mg_none_of X G o_tuple
  have n_repr := PySem.W.mg_none_of X G o_repr
  have n_isinstance := PySem.W.mg_none_of X G o_isinstance
  have n_Exception := PySem.W.mg_none_of X G o_Exception
  have n_ValueError := PySem.W.mg_none_of X G o_ValueError
  have n_KeyError := PySem.W.mg_none_of X G o_KeyError
  refine ⟨PySem.W.fnOf "law" "law" (defArgs sLaw) (defBody sLaw) (defScope sLaw) .none kVL dcL pmL anL cdL ctL, fun s v => .of_eq rfl, fun base _ _ => ?_⟩
  have GA : FnOk l.prog w K mg base CX0 1 gA _ ["deal", "bound"] spAny := ok_any FA n_int
  have GO : FnOk l.prog w K mg base CX0 2 gO _ ["deal", "some"] (spOf K) := ok_of FO GA mA FA.kp bA n_len
  have GD : FnOk l.prog w K mg base CX0 1 gD _ ["script", "base"] (spDeal K) := ok_deal FD n_int n_abs
  have GT : FnOk l.prog w K mg base CX0 6 gT _ ["deal", "depth"] (spThing K 3) := ok_thing FT GA mA FA.kp bA GO mO FO.kp bO mT bT n_range n_tuple 3 (by decide)
  have GU : FnOk l.prog w K mg base CX0 3 gU _ ["number", "thing", "named"] (spMade Cs 5) := ok_other FU Ks k12
  have GM : FnOk l.prog w K mg base CX0 4 gM _ ["number", "thing", "named"] (spMade Cs 0) := ok_made FM Ks GU mU FU.kp bU
  have GN : FnOk l.prog w K mg base CX0 1 gN _ ["e"] (spKinds Cs) := ok_kinds FN Ts mgs kk n_isinstance n_range n_len
  have GP : FnOk l.prog w K mg base CX0 1 gP _ ["number", "e"] (spKept Cs) := ok_kept FP Ks
  have GR : FnOk l.prog w K mg base (L2.CX l.prog w) 3 gR _ ["number"] (spRaised Cs) := ok_raised FR Ks
  have GC : FnOk l.prog w K mg base CX0 4 gC _ ["number"] spCaught := ok_caught FC Ks k12 GR mR FR.kp bR (PySem.W.mg_of X G aCB) n_KeyError mB mK
  obtain ⟨nm, q, N, bs, sn, sub, ab, col, dd, q0, q1, q2, q3, q5, xL⟩ := eB.row
  exact ok_law FL
    { GD := GD, GT := GT, GM := GM, GK := GN, GP := GP, GC := GC, mD := mD, mT := mT, mM := mM, mK := mN, mP := mP, mC := mC, mB := PySem.W.mg_of X G aCB, kD := FD.kp, kT := FT.kp, kM := FM.kp, kK := FN.kp, kP := FP.kp, kC := FC.kp,
      bD := bD, bT := bT, bM := bM, bK := bN, bP := bP, bC := bC, noRange := n_range, noRepr := n_repr, noIsi := n_isinstance, noExc := n_Exception, noVal := n_ValueError, noKey := n_KeyError, Ts := Ts, TB := TB, initB := aB,
      newB := ⟨nm, q, N, bs, topB, sn, sub, ab, col, dd, q0, q1, q2, q3, q5, xL, ⟨by decide, by decide, by decide⟩, fun _ => rfl⟩, xE := xE, xV := xV, xK := xK, xB := xB,
      bE := (by rw [RB.one_ty (by decide +kernel)]; rfl), bV := (by rw [RB.one_ty (by decide +kernel)]; rfl), bKy := (by rw [RB.one_ty (by decide +kernel)]; rfl) }
end K00
set_option Elab.async false
set_option linter.all false
set_option maxRecDepth 100000
namespace K00
open PySem PySem.Spec PyProof.Rows L2 Wb
theorem walk {l : PySem.W.OpenLaw} {q : Program} {loose : List Str} {XP : (Str → Option Value) → Heap → Prop} {YP : World → Heap → Prop} {d : DefRec} {K : Params → PySem.W.Frag} (hn : l.most = some 63) (hdf : d.params.defaults = [])
    (hY : ∀ (w : World) (h : Heap), YP w h → (K w.params).In h)
    (F : ∀ (w : World) (mg : Str → Option Value) (fa : Addr) (h : Heap), (K w.params).In h → h.Ns mainGlobals mg → mg d.name = some (.ref fa) →
      ∃ fd : FuncData, (∀ (s : Shared) (u : Value), BindsTo s fd ⟨[u], []⟩ [("script", u)]) ∧ ∀ base : Heap, (K w.params).In base → base.Ns mainGlobals mg → FnG l.prog w (K w.params) mg base CX0 7 fa fd ["script"] (spLaw (K w.params))) :
    PySem.W.WalkO q loose XP YP l.row.toRowW d [] (fun f vs => PySem.call f vs) :=
  walkG (n := 63) (k := 7) (x := "script") (CX := fun _ => CX0) (sp := fun w => spLaw (K w.params)) hn (by decide) hdf ⟨rfl, by decide, by decide⟩ hY F (fun _ _ a ns hl _ hS => ⟨a, ns, rfl, hS, hl, fun _ => rfl⟩) fun _ _ _ _ _ z => z
end K00
open PySem PySem.W PyProof.Rows in
set_option maxRecDepth 100000 in
set_option maxHeartbeats 0 in
theorem PySem.Challenge.cw_whyblank_k00_errors_and_what_they_keep_holds : PySem.Challenge.rw_whyblank_k00_errors_and_what_they_keep.Holds := by
  w_on; o_law; k_head; (case hw => w_witness2)
  k_fill
  refine K00.walk (l := PySem.Challenge.rw_whyblank_k00_errors_and_what_they_keep) rfl rfl (fun w h Y => PySem.W.kIn_of Y) ?F
  case F =>
    intro w mg fa h KX G hmg
    refine' K00.all_mk KX G hmg ?aC0 ?aC1 ?aC2 ?aC3 ?aC4 ?aC5 ?aC6 ?aC7 ?aC8 ?aC9 ?aC10 ?aC11 ?aC12 ?aCB ?hnd (K00.EF.mk (K00.ClsRow.mk2 ?r0) ?sa0 ?ga0 ?gg0 ?ex0 ?ty0 ?hd0 ?kp0 ?hc0 ?hm0) ?a0 ?t0 ?no0 (K00.FnF.mk2 ?l0 ?u0 ?v0) (K00.EF.mk (K00.ClsRow.mk2 ?r1) ?sa1 ?ga1 ?gg1 ?ex1 ?ty1 ?hd1 ?kp1 ?hc1 ?hm1) ?a1 ?t1 ?no1 (K00.FnF.mk2 ?l1 ?u1 ?v1) (K00.EF.mk (K00.ClsRow.mk2 ?r2) ?sa2 ?ga2 ?gg2 ?ex2 ?ty2 ?hd2 ?kp2 ?hc2 ?hm2) ?a2 ?t2 ?no2 (K00.FnF.mk2 ?l2 ?u2 ?v2) (K00.EF.mk (K00.ClsRow.mk2 ?r3) ?sa3 ?ga3 ?gg3 ?ex3 ?ty3 ?hd3 ?kp3 ?hc3 ?hm3) ?a3 ?t3 ?no3 (K00.FnF.mk2 ?l3 ?u3 ?v3) (K00.EF.mk (K00.ClsRow.mk2 ?r4) ?sa4 ?ga4 ?gg4 ?ex4 ?ty4 ?hd4 ?kp4 ?hc4 ?hm4) ?a4 ?t4 ?no4 (K00.FnF.mk2 ?l4 ?u4 ?v4) (K00.EF.mk (K00.ClsRow.mk2 ?r5) ?sa5 ?ga5 ?gg5 ?ex5 ?ty5 ?hd5 ?kp5 ?hc5 ?hm5) ?a5 ?t5 ?no5 (K00.FnF.mk2 ?l5 ?u5 ?v5) (K00.EF.mk (K00.ClsRow.mk2 ?r6) ?sa6 ?ga6 ?gg6 ?ex6 ?ty6 ?hd6 ?kp6 ?hc6 ?hm6) ?a6 ?t6 ?no6 (K00.FnF.mk2 ?l6 ?u6 ?v6) (K00.EF.mk (K00.ClsRow.mk2 ?r7) ?sa7 ?ga7 ?gg7 ?ex7 ?ty7 ?hd7 ?kp7 ?hc7 ?hm7) ?a7 ?t7 ?no7 (K00.FnF.mk2 ?l7 ?u7 ?v7) (K00.EF.mk (K00.ClsRow.mk2 ?r8) ?sa8 ?ga8 ?gg8 ?ex8 ?ty8 ?hd8 ?kp8 ?hc8 ?hm8) ?a8 ?t8 ?no8 (K00.FnF.mk2 ?l8 ?u8 ?v8) (K00.EF.mk (K00.ClsRow.mk2 ?r9) ?sa9 ?ga9 ?gg9 ?ex9 ?ty9 ?hd9 ?kp9 ?hc9 ?hm9) ?a9 ?t9 ?no9 (K00.FnF.mk2 ?l9 ?u9 ?v9) (K00.EF.mk (K00.ClsRow.mk2 ?r10) ?sa10 ?ga10 ?gg10 ?ex10 ?ty10 ?hd10 ?kp10 ?hc10 ?hm10) ?a10 ?t10 ?no10 (K00.FnF.mk2 ?l10 ?u10 ?v10) (K00.EF.mk (K00.ClsRow.mk2 ?r11) ?sa11 ?ga11 ?gg11 ?ex11 ?ty11 ?hd11 ?kp11 ?hc11 ?hm11) ?a11 ?t11 ?no11 (K00.FnF.mk2 ?l11 ?u11 ?v11) (K00.EF.mk (K00.ClsRow.mk2 ?r12) ?sa12 ?ga12 ?gg12 ?ex12 ?ty12 ?hd12 ?kp12 ?hc12 ?hm12) ?a12 ?t12 (K00.FnF.mk2 ?l12 ?u12 ?v12) (K00.EF.mk (K00.ClsRow.mk2 ?rB) ?saB ?gaB ?ggB ?exB ?tyB ?hdB ?kpB ?hcB ?hmB) ?aB ?hn ?ht ?zD (K00.FnF.mk2 ?yD ?pD ?qD) ?zA (K00.FnF.mk2 ?yA ?pA ?qA) ?zO (K00.FnF.mk2 ?yO ?pO ?qO) ?zT (K00.FnF.mk2 ?yT ?pT ?qT) ?zM (K00.FnF.mk2 ?yM ?pM ?qM) ?zU (K00.FnF.mk2 ?yU ?pU ?qU) ?zN (K00.FnF.mk2 ?yN ?pN ?qN) ?zP (K00.FnF.mk2 ?yP ?pP ?qP) ?zR (K00.FnF.mk2 ?yR ?pR ?qR) ?zC (K00.FnF.mk2 ?yC ?pC ?qC) ?zL (K00.FnF.mk2 ?yL ?pL ?qL) ?o_int ?o_abs ?o_len ?o_range ?o_tuple ?o_repr ?o_isinstance ?o_Exception ?o_ValueError ?o_KeyError
    (case aC0 => k_is)
    (case aC1 => k_is)
    (case aC2 => k_is)
    (case aC3 => k_is)
    (case aC4 => k_is)
    (case aC5 => k_is)
    (case aC6 => k_is)
    (case aC7 => k_is)
    (case aC8 => k_is)
    (case aC9 => k_is)
    (case aC10 => k_is)
    (case aC11 => k_is)
    (case aC12 => k_is)
    (case aCB => k_is)
    (case hnd => decide)
    (case r0 => k_is)
    (case sa0 => k_is)
    (case ga0 => k_is)
    (case gg0 => k_is)
    (case ex0 => k_is)
    (case ty0 => k_is)
    (case hd0 => k_is)
    (case kp0 => k_is)
    (case hc0 => k_is)
    (case hm0 => k_is)
    (case a0 => k_is)
    (case t0 => k_is)
    (case no0 => k_is)
    (case l0 => k_is)
    (case u0 => k_is)
    (case v0 => k_is)
    (case r1 => k_is)
    (case sa1 => k_is)
    (case ga1 => k_is)
    (case gg1 => k_is)
    (case ex1 => k_is)
    (case ty1 => k_is)
    (case hd1 => k_is)
    (case kp1 => k_is)
    (case hc1 => k_is)
    (case hm1 => k_is)
    (case a1 => k_is)
    (case t1 => k_is)
    (case no1 => k_is)
    (case l1 => k_is)
    (case u1 => k_is)
    (case v1 => k_is)
    (case r2 => k_is)
    (case sa2 => k_is)
    (case ga2 => k_is)
    (case gg2 => k_is)
    (case ex2 => k_is)
    (case ty2 => k_is)
    (case hd2 => k_is)
    (case kp2 => k_is)
    (case hc2 => k_is)
    (case hm2 => k_is)
    (case a2 => k_is)
    (case t2 => k_is)
    (case no2 => k_is)
    (case l2 => k_is)
    (case u2 => k_is)
    (case v2 => k_is)
    (case r3 => k_is)
    (case sa3 => k_is)
    (case ga3 => k_is)
    (case gg3 => k_is)
    (case ex3 => k_is)
    (case ty3 => k_is)
    (case hd3 => k_is)
    (case kp3 => k_is)
    (case hc3 => k_is)
    (case hm3 => k_is)
    (case a3 => k_is)
    (case t3 => k_is)
    (case no3 => k_is)
    (case l3 => k_is)
    (case u3 => k_is)
    (case v3 => k_is)
    (case r4 => k_is)
    (case sa4 => k_is)
    (case ga4 => k_is)
    (case gg4 => k_is)
    (case ex4 => k_is)
    (case ty4 => k_is)
    (case hd4 => k_is)
    (case kp4 => k_is)
    (case hc4 => k_is)
    (case hm4 => k_is)
    (case a4 => k_is)
    (case t4 => k_is)
    (case no4 => k_is)
    (case l4 => k_is)
    (case u4 => k_is)
    (case v4 => k_is)
    (case r5 => k_is)
    (case sa5 => k_is)
    (case ga5 => k_is)
    (case gg5 => k_is)
    (case ex5 => k_is)
    (case ty5 => k_is)
    (case hd5 => k_is)
    (case kp5 => k_is)
    (case hc5 => k_is)
    (case hm5 => k_is)
    (case a5 => k_is)
    (case t5 => k_is)
    (case no5 => k_is)
    (case l5 => k_is)
    (case u5 => k_is)
    (case v5 => k_is)
    (case r6 => k_is)
    (case sa6 => k_is)
    (case ga6 => k_is)
    (case gg6 => k_is)
    (case ex6 => k_is)
    (case ty6 => k_is)
    (case hd6 => k_is)
    (case kp6 => k_is)
    (case hc6 => k_is)
    (case hm6 => k_is)
    (case a6 => k_is)
    (case t6 => k_is)
    (case no6 => k_is)
    (case l6 => k_is)
    (case u6 => k_is)
    (case v6 => k_is)
    (case r7 => k_is)
    (case sa7 => k_is)
    (case ga7 => k_is)
    (case gg7 => k_is)
    (case ex7 => k_is)
    (case ty7 => k_is)
    (case hd7 => k_is)
    (case kp7 => k_is)
    (case hc7 => k_is)
    (case hm7 => k_is)
    (case a7 => k_is)
    (case t7 => k_is)
    (case no7 => k_is)
    (case l7 => k_is)
    (case u7 => k_is)
    (case v7 => k_is)
    (case r8 => k_is)
    (case sa8 => k_is)
    (case ga8 => k_is)
    (case gg8 => k_is)
    (case ex8 => k_is)
    (case ty8 => k_is)
    (case hd8 => k_is)
    (case kp8 => k_is)
    (case hc8 => k_is)
    (case hm8 => k_is)
    (case a8 => k_is)
    (case t8 => k_is)
    (case no8 => k_is)
    (case l8 => k_is)
    (case u8 => k_is)
    (case v8 => k_is)
    (case r9 => k_is)
    (case sa9 => k_is)
    (case ga9 => k_is)
    (case gg9 => k_is)
    (case ex9 => k_is)
    (case ty9 => k_is)
    (case hd9 => k_is)
    (case kp9 => k_is)
    (case hc9 => k_is)
    (case hm9 => k_is)
    (case a9 => k_is)
    (case t9 => k_is)
    (case no9 => k_is)
    (case l9 => k_is)
    (case u9 => k_is)
    (case v9 => k_is)
    (case r10 => k_is)
    (case sa10 => k_is)
    (case ga10 => k_is)
    (case gg10 => k_is)
    (case ex10 => k_is)
    (case ty10 => k_is)
    (case hd10 => k_is)
    (case kp10 => k_is)
    (case hc10 => k_is)
    (case hm10 => k_is)
    (case a10 => k_is)
    (case t10 => k_is)
    (case no10 => k_is)
    (case l10 => k_is)
    (case u10 => k_is)
    (case v10 => k_is)
    (case r11 => k_is)
    (case sa11 => k_is)
    (case ga11 => k_is)
    (case gg11 => k_is)
    (case ex11 => k_is)
    (case ty11 => k_is)
    (case hd11 => k_is)
    (case kp11 => k_is)
    (case hc11 => k_is)
    (case hm11 => k_is)
    (case a11 => k_is)
    (case t11 => k_is)
    (case no11 => k_is)
    (case l11 => k_is)
    (case u11 => k_is)
    (case v11 => k_is)
    (case r12 => k_is)
    (case sa12 => k_is)
    (case ga12 => k_is)
    (case gg12 => k_is)
    (case ex12 => k_is)
    (case ty12 => k_is)
    (case hd12 => k_is)
    (case kp12 => k_is)
    (case hc12 => k_is)
    (case hm12 => k_is)
    (case a12 => k_is)
    (case t12 => k_is)
    (case l12 => k_is)
    (case u12 => k_is)
    (case v12 => k_is)
    (case rB => k_is)
    (case saB => k_is)
    (case gaB => k_is)
    (case ggB => k_is)
    (case exB => k_is)
    (case tyB => k_is)
    (case hdB => k_is)
    (case kpB => k_is)
    (case hcB => k_is)
    (case hmB => k_is)
    (case aB => k_is)
    (case hn => k_is)
    (case ht => k_is)
    (case zD => k_is)
    (case yD => k_is)
    (case pD => k_is)
    (case qD => k_is)
    (case zA => k_is)
    (case yA => k_is)
    (case pA => k_is)
    (case qA => k_is)
    (case zO => k_is)
    (case yO => k_is)
    (case pO => k_is)
    (case qO => k_is)
    (case zT => k_is)
    (case yT => k_is)
    (case pT => k_is)
    (case qT => k_is)
    (case zM => k_is)
    (case yM => k_is)
    (case pM => k_is)
    (case qM => k_is)
    (case zU => k_is)
    (case yU => k_is)
    (case pU => k_is)
    (case qU => k_is)
    (case zN => k_is)
    (case yN => k_is)
    (case pN => k_is)
    (case qN => k_is)
    (case zP => k_is)
    (case yP => k_is)
    (case pP => k_is)
    (case qP => k_is)
    (case zR => k_is)
    (case yR => k_is)
    (case pR => k_is)
    (case qR => k_is)
    (case zC => k_is)
    (case yC => k_is)
    (case pC => k_is)
    (case qC => k_is)
    (case zL => k_is)
    (case yL => k_is)
    (case pL => k_is)
    (case qL => k_is)
    (case o_int => k_is)
    (case o_abs => k_is)
    (case o_len => k_is)
    (case o_range => k_is)
    (case o_tuple => k_is)
    (case o_repr => k_is)
    (case o_isinstance => k_is)
    (case o_Exception => k_is)
    (case o_ValueError => k_is)
    (case o_KeyError => k_is)
