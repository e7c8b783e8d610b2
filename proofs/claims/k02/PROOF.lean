import PyProof.Rows.All
import Wide.All
import OpenK.AllK
import Wide.FinOn
import HandS.ForMost
import HandS.ForExc
import HandS.Wide
import HandS.Ends
import HandS.ExcInit
import KE.KExcIs
import KE.KExcInit
import HandS.IsInst
import HandS.TryMany
import HandS.Style
import PyProof.ReprLen
import PyProof.ReprText
import HandS.Gcd
import HandS.WideMore
import HandS.WideBits
import PySem.Challenge.RW_whyblank_k02_whole_sums_quotients_and_or
import PyProof.ReprBulk
import PyProof.FitsInt
import HandS.TupAny
import HandS.More
set_option Elab.async false
set_option linter.all false
set_option maxRecDepth 100000
set_option maxHeartbeats 4000000
/-! Wb0: repr of data, and calls whose surroundings run no repr (guards empty). -/
namespace Wb
open PySem PySem.Spec PyProof.Rows L2

/-! ### repr over data -/
def rShow (K : PySem.W.Frag) : List V → Hp → VK → Prop := fun xs H Q =>
  ∃ (x : V) (d : PyData), xs = [x] ∧ Dp K H x d ∧ d.showable = true ∧ d.hasDict = false ∧ d.depth ≤ 60 ∧ d.shown.length ≤ sizeLine ∧ Q (.str d.shown) H
section
variable {X : Cx}
theorem call_show (hg : X.A.guards = some []) (hu : X.A.units + 64 < cLine) : CallR X (.builtin "repr") (rShow X.K) := by
  intro pins s σ H xs us Q I rr hh
  obtain ⟨x, d, rfl, hd, hs, hn, hdep, hl, hq⟩ := hh
  cases rr with
  | cons r1 r2 =>
  cases r2
  rename_i u
  obtain ⟨as, rd⟩ := Dp.reads I d x u hd r1
  have done : ∀ (h' : Heap) (t tk : Nat), (∀ b o, s.heap.get? b = some o → h'.get? b = some o) → EP X pins σ Q (.str d.shown t) { s with heap := h', toks := tk } :=
    fun h' t tk kp => ⟨.str d.shown, H, I.kept kp, ⟨t, rfl⟩, hq⟩
  cases hd with
  | non =>
    obtain rfl : u = Value.none := r1
    simp only [PyData.shown] at done
    exact PySem.P.repr_of_none (done _ _ _ fun _ _ e => e)
  | bl b =>
    obtain rfl : u = Value.bool b := r1
    simp only [PyData.shown] at done
    exact PySem.P.repr_of_bool (done _ _ _ fun _ _ e => e)
  | int i =>
    obtain ⟨t, rfl⟩ := r1
    simp only [PyData.shown] at done
    exact PySem.P.repr_of_int (by simpa [PyData.showable] using hs) (done _ _ _ fun _ _ e => e)
  | str z =>
    obtain ⟨t, rfl⟩ := r1
    simp only [PyData.shown] at done
    exact PySem.P.repr_of_str (done _ _ _ fun _ _ e => e) (by simpa only [PyData.shown] using hl)
  | lst h1 h2 =>
    cases r1
    exact repr_of_reads' rd hs (PyData.noDict_hsm hn) hg (by omega) (fun _ _ e => e) (fun h' t tk kp => done h' t tk kp) hl
  | tup h1 h2 =>
    cases r1
    exact repr_of_reads' rd hs (PyData.noDict_hsm hn) hg (by omega) (fun _ _ e => e) (fun h' t tk kp => done h' t tk kp) hl
end

/-! ### a def that is called where no repr runs -/
structure FnG (P : Program) (w : World) (K : PySem.W.Frag) (mg : Str → Option Value) (base : Heap) (CX : CXT) (k : Nat) (f : Addr) (fd : FuncData) (ps : List Str) (sp : Sp) : Prop where
  arity : ∀ vs H Q E, sp vs H Q E → vs.length = ps.length
  go : ∀ (A : Around) (outer : List Env) (s : Shared) (H : Hp) (args : Args) (us : List Value) (vs : List V) (Q : VK) (E : XK),
    A.guards = some [] → Room k A → Env0 P w K mg base A outer s H → BindsTo s fd args (ps.zip us) → Vals vs us → sp vs H Q E →
    codeAny (model P w) A (.call (.ref f) args) (CR CX outer P w H s Q E) s

theorem FnG.of {P w K mg base CX k f fd ps sp} (F : FnOk P w K mg base CX k f fd ps sp) : FnG P w K mg base CX k f fd ps sp :=
  ⟨F.len, fun A outer s H args us vs Q E _ => F.run A outer s H args us vs Q E⟩

section
variable {P : Program} {w : World} {K : PySem.W.Frag} {mg : Str → Option Value} {base : Heap}
/-- the body of such a def, with the surroundings' guards told -/
theorem okG {CX : CXT} {x qual : Str} {st : Stmt} {f : Addr} {fd : FuncData} {N ps : List Str} {k : Nat} {sp : Sp} (F : Fun K x qual st f fd) (S : FnScope N ps (defScope st)) (ar : ∀ vs H Q E, sp vs H Q E → vs.length = ps.length)
    (body : ∀ (cdv : Value) (A : Around) (outer : List Env) (s : Shared) (H : Hp) (vs : List V) (Q : VK) (E : XK),
      (A.deeper (envOfC qual (defScope st) s.heap.objs.size f cdv)).guards = some [] → Room k (A.deeper (envOfC qual (defScope st) s.heap.objs.size f cdv)) → sp vs H Q E →
      ∃ t, PSs (cxOf CX P w K mg base N qual (defScope st) f cdv A outer s H E) (defBody st) t ∧ t { nx := fun _ H' => Q .non H', rt := Q } (start N vs) H) :
    FnG P w K mg base CX (k + 1) f fd ps sp := by
  obtain ⟨a1, a2, a3, a4, a5, a6, cdv, a8, a9, rfl, found, coded⟩ := F.ex
  refine ⟨ar, ?_⟩
  intro A outer s H args us vs Q E gd room env0 bnd rel want
  have many := ar _ _ _ _ want
  have inS : K.In s.heap := env0.mod.kin.keeps fun b o e => (env0.bs b o e).1
  have noLim : s.heap.NoLimit := env0.mod.nolimit.keeps fun b o e => (env0.bs b o e).1
  refine codeAny_call_function room.depth (inS _ _ found) rfl S.co S.gen rfl (PySem.W.codeRec_of inS coded) (bnd _ _ _ _ ?_)
  have kinds : ∀ y ∈ ps.zip us, (defScope st).names.lookup y.1 = some .local ∨
      ((defScope st).names.lookup y.1 = some .cell ∧ ((cellsFrom (s.heap.objs.size + 1) (defScope st).names []).lookup y.1).isSome = true) := by
    rintro ⟨n, v⟩ mem
    have hp := S.par n (List.of_mem_zip mem).1
    rcases hp with hp | hp
    · exact Or.inl hp
    · exact Or.inr ⟨hp, PySem.W.cellsFrom_some _ _ _ (Or.inl hp)⟩
  refine wpAny_newFunctionEnv_cells S.kind kinds ?_
  intro env isEnv s1 inCall
  subst isEnv
  refine ⟨noLim.keeps inCall.toInCall.keep, codeAny_func ?_⟩
  have gd2 : (A.deeper (envOfC qual (defScope st) s.heap.objs.size f cdv)).guards = some [] := gd
  obtain ⟨t, derived, holds⟩ := body cdv A outer s H vs Q E gd2 (room.deeper _) want
  have inv := inv_start (CX := CX) (E := E) (qual := qual) (cd := cdv) (f := f) S room.hd env0 many rel inCall
  refine wpAny_mono (derived.run [] s1 (start N vs) H _ inv holds) ?_ (fun _ _ z => z)
  intro fl s' got
  cases fl with
  | ret u =>
    obtain ⟨v, σ', H', J, rv, q⟩ := got
    exact ⟨v, H', J.os, J.bare, J.base, J.hok, rv, q⟩
  | next =>
    obtain ⟨σ', H', J, q⟩ := got
    exact ⟨V.non, H', J.os, J.bare, J.base, J.hok, rfl, q⟩
  | brk => obtain ⟨_, _, _, q⟩ := got; exact q.elim
  | cont => obtain ⟨_, _, _, q⟩ := got; exact q.elim
end

/-! ### calling it -/
section
variable {X : Cx} {CX : CXT} {k : Nat} {f : Addr} {fd : FuncData} {ps : List Str} {sp : Sp} {dvs : List V} {ds : List Value} {E : XK} {x : Str} {p pos : Pos} {e : Expr} {es : List Expr} {t : TA}
theorem runG {pins : List (Addr × Obj)} {σ : L2.St} {H : Hp} {s : Shared} {Q : VK} {us : List Value} {vs : List V} (F : FnG X.prog X.w X.K X.mg X.base CX k f fd ps sp) (gd : X.A.guards = some []) (hr : Room k X.A) (hb : Binds X.K fd ps ds) (hd : Vals dvs ds)
    (hx : Passes CX X E) (I : Inv X pins σ H s) (r : Vals vs us) (h : sp (vs ++ dvs) H Q E) : wpAny (model X.prog X.w) X.A (call (.ref f) us) (EP X pins σ Q) X.xe s := by
  have r2 := r.append hd
  have many : (us ++ ds).length = ps.length := r2.length.symm.trans (F.arity _ _ _ _ h)
  apply wpAny_call
  refine codeAny_mono (F.go X.A X.stack s H ⟨us, []⟩ _ _ Q E gd hr I.env0 (hb s us I.kIn many) r2 h) ?_
  intro res s' got
  match res, got with
  | .error er, got => exact hx pins σ H s er s' I got
  | .ok (.ret u), got => exact I.after got
theorem pe_callG (F : FnG X.prog X.w X.K X.mg X.base CX k f fd ps sp) (gd : X.A.guards = some []) (hr : Room k X.A) (hg : Gl X x) (hm : X.mg x = some (.ref f)) (hk : PySem.W.keepIn X.K (.ref f) = true) (hb : Binds X.K fd ps ds) (hd : Vals dvs ds)
    (hx : Passes CX X E) (ha : PA X (e :: es) t) (hdb : (x == ("__debug__" : Str)) = false := by decide) (he : starEach (e :: es) X.env = (false, eval e X.env) :: starEach es X.env := by rfl)
    (hpl : (backTo pos (starEach es X.env)).any (·.1) = false := by rfl) : PE X (.Call (.Name x p) (e :: es) [] pos) (tCall sp dvs E t) := by
  constructor
  intro pins s σ H Q I h
  apply wpAny_Call_Name_kw
  apply ld_glob I hg hm _ hdb
  refine PySem.W.callWith_K (h₀ := X.base) I.ok.mod.kin hk (thn (ha.run pos pins s σ H _ I h) ?_) he hpl
  rintro us s1 ⟨vs, H1, I1, r, q⟩
  exact ⟨I1.kIn, runG F gd hr hb hd hx I1 r q⟩
end
end Wb

set_option Elab.async false
set_option linter.all false
set_option maxRecDepth 100000
set_option maxHeartbeats 4000000
/-! Wb1: the law's own call, guards told. -/
namespace Wb
open PySem PySem.Spec PyProof.Rows L2

/-- the law's def, promised where no repr runs, called from outside -/
theorem lawG {P : Program} {w : World} {K : PySem.W.Frag} {mg mb : Str → Option Value} {CX : CXT} {k : Nat} {fa a : Addr} {fd : FuncData} {x : Str} {sp : Sp} {st : Shared} {vs : List Value} {ns : List Int}
    (inK : K.In st.heap) (names : st.heap.Ns mainGlobals mg) (bns : st.heap.Ns builtinsNs mb) (boot : ∀ x : Str, x ≠ "__name__" → mb x = bootBuiltins x) (lim : st.heap.NoLimit) (nogen : st.gens = #[])
    (atA : st.heap.get? a = some { cls := .type "list", data := .seq vs.toArray }) (areInts : IntsAre vs ns) (short : ns.length ≤ sizeLine) (room : Room k callerA)
    (F : ∀ base : Heap, K.In base → base.Ns mainGlobals mg → FnG P w K mg base CX k fa fd [x] sp) (bind1 : ∀ (s : Shared) (u : Value), BindsTo s fd ⟨[u], []⟩ [(x, u)])
    (want : ∀ H : Hp, Only H → SqL K H a (ns.map V.int) → sp [.ref a] H (fun v _ => v = .bl true) fun _ _ _ => False)
    (noX : ∀ H e s', CX [] H st (fun _ _ _ => False) e s' → False) :
    codeAny (model P w) callerA (.call (.ref fa) ⟨[.ref a], []⟩) (fun r s' => r = .ok (.ret (.bool true)) ∧ OldK st.heap s'.heap ∧ s'.os = st.os ∧ AllBare s'.gens) st := by
  have rel := vals_ints areInts
  have same := areInts.length
  -- what is told of any abstract heap that tracks the script at most
  suffices go : ∀ H : Hp, Only H → SqL K H a (ns.map V.int) → HOk P w H st.heap → (∀ b, H b ≠ none → b = a) → (H a ≠ none → K.lookup a = none) →
      codeAny (model P w) callerA (.call (.ref fa) ⟨[.ref a], []⟩) (fun r s' => r = .ok (.ret (.bool true)) ∧ OldK st.heap s'.heap ∧ s'.os = st.os ∧ AllBare s'.gens) st by
    rcases own : K.lookup a with _ | ob
    · -- the script is tracked, as a thing that stands still
      let frozen : HO := .frz { cls := .type "list", data := .seq vs.toArray } (.lst (ns.map V.int))
      refine go (fun b => if b = a then some frozen else none) ?_ ?_ ?_ ?_ (fun _ => own)
      · intro b
        by_cases e : b = a
        · exact Or.inr ⟨_, _, if_pos e⟩
        · exact Or.inl (if_neg e)
      · exact Or.inl (Or.inr ⟨_, if_pos rfl⟩)
      · intro b u e
        by_cases h : b = a
        · subst h
          cases (if_pos rfl).symm.trans e
          exact ⟨atA, by simpa using short, vs, _, rel, atA⟩
        · cases (if_neg h).symm.trans e
      · intro b e
        by_cases h : b = a
        · exact h
        · exact absurd (if_neg h) e
    · -- the script is one of the module's own objects
      have there := inK a ob own
      rw [atA] at there
      cases there
      refine go (fun _ => none) (fun _ => Or.inl rfl) ?_ (fun b u e => ?_) (fun b e => absurd rfl e) (fun e => absurd rfl e)
      · exact Or.inr ⟨_, vs.toArray, _, own, rfl, rfl, rfl, by rw [List.size_toArray, same]; exact short, by simpa using rel⟩
      · have e' : (none : Option HO) = some u := e
        cases e'
  intro H only seq ok just notK
  have keepB : ∀ {b : Addr} {o : Obj}, st.heap.get? b = some o → H b = none → (hidT st.heap H).get? b = some o := fun e n => hidT_get e n
  have dictFree : ∀ {b : Addr} {o : Obj} {es : Array DictEntry} {ep : Nat}, st.heap.get? b = some o → o.data = .dict es ep → H b = none := by
    intro b o es ep e d
    by_cases q : H b = none
    · exact q
    · have h := just b q
      subst h
      rw [atA] at e
      cases e
      have d' : Data.seq vs.toArray _ = Data.dict es ep := d
      cases d'
  have nsIn : ∀ {b : Addr} {m : Str → Option Value}, st.heap.Ns b m → (hidT st.heap H).Ns b m := by
    rintro b m ⟨o, es, ep, e, d, r⟩
    exact ⟨o, es, ep, keepB e (dictFree e d), d, r⟩
  have inBase : K.In (hidT st.heap H) := by
    intro b o e
    refine keepB (inK b o e) ?_
    by_cases q : H b = none
    · exact q
    · have h := just b q
      subst h
      rw [notK q] at e
      cases e
  have md : Mod K mg (hidT st.heap H) := by
    obtain ⟨mc, l1, l2⟩ := lim
    exact ⟨inBase, nsIn names, ⟨mb, nsIn bns, boot⟩, ⟨mc, nsIn l1, l2⟩⟩
  have env0 : Env0 P w K mg (hidT st.heap H) callerA [] st H :=
    ⟨rfl, md, fun b o e => of_hidT e, Nat.le_of_eq (hidT_size _ _), trivial, fun b hb => absurd (show b ∈ ([] : List Addr) from hb) (by simp), ok, .of_eq nogen⟩
  have ran := (F _ inBase (nsIn names)).go callerA [] st H ⟨[.ref a], []⟩ [.ref a] [.ref a] _ _ rfl room env0 (bind1 st (.ref a)) (.cons rfl .nil) (want H only seq)
  refine codeAny_mono ran ?_
  intro r s' h
  match r, h with
  | .error e, h => exact (noX H e s' h).elim
  | .ok (.ret u), h =>
    obtain ⟨v, H', os, bare, un, ok', rv, q⟩ := h
    have q' : v = .bl true := q
    subst q'
    obtain rfl : u = Value.bool true := rv
    refine ⟨rfl, OldK.of_keep ?_, os, bare⟩
    intro b o e
    by_cases q : H b = none
    · exact un.keep b o e q (fun z => absurd (show b ∈ ([] : List Addr) from z) (by simp)) (by simp)
    · rcases only b with z | ⟨ob, xs, z⟩
      · exact absurd z q
      · obtain ⟨e1, _⟩ := ok b _ z
        obtain ⟨e2, _⟩ := ok' b _ (un.frzs b ob _ z)
        rw [e] at e1
        cases e1
        exact e2

/-- the goal that the head leaves, from such a promise of the law's def -/
theorem walkG {l : PySem.W.OpenLaw} {n k : Nat} {q : Program} {loose : List Str} {XP : (Str → Option Value) → Heap → Prop} {YP : World → Heap → Prop} {d : DefRec} {K : Params → PySem.W.Frag} {CX : World → CXT} {sp : World → Sp} {x : Str}
    (h1 : l.most = some n) (h2 : n ≤ sizeLine) (h3 : d.params.defaults = []) (room : Room k callerA) (hY : ∀ (w : World) (h : Heap), YP w h → (K w.params).In h)
    (F : ∀ (w : World) (mg : Str → Option Value) (fa : Addr) (h : Heap), (K w.params).In h → h.Ns mainGlobals mg → mg d.name = some (.ref fa) →
      ∃ fd : FuncData, (∀ (s : Shared) (u : Value), BindsTo s fd ⟨[u], []⟩ [(x, u)]) ∧
        ∀ base : Heap, (K w.params).In base → base.Ns mainGlobals mg → FnG l.prog w (K w.params) mg base (CX w) k fa fd [x] (sp w))
    (want : ∀ (w : World) (H : Hp) (a : Addr) (ns : List Int), ns.length ≤ n → Only H → SqL (K w.params) H a (ns.map V.int) → sp w [.ref a] H (fun v _ => v = .bl true) fun _ _ _ => False)
    (noX : ∀ (w : World) (H : Hp) (s : Shared) (e : Value) (s' : Shared), CX w [] H s (fun _ _ _ => False) e s' → False) :
    PySem.W.WalkO q loose XP YP l.row.toRowW d [] (fun f vs => PySem.call f vs) := by
  apply Att.attach_call h1 h3
  intro w s₀ s₁ mg mb fa o pm cd doc a vs ns G Y ho hd hcd hmg hobj hints hlen hg
  have inK := hY w _ Y
  obtain ⟨fd, hb, hF⟩ := F w mg fa _ inK G.T.g hmg
  exact lawG inK G.T.g G.T.b G.T.builtins G.T.nolimit hg hobj hints (Nat.le_trans hlen h2) room hF hb (fun H hO hS => want w H a ns hlen hO hS) fun H e s' => noX w H s₁ e s'
end Wb

set_option Elab.async false
set_option linter.all false
set_option maxRecDepth 100000
set_option maxHeartbeats 4000000
/-! Wb2: own exceptions as values: made (by position and by name), their field read, isinstance. -/
namespace PySem
namespace WbE
open PySem.W PySem.Calls PyProof.Rows
section
variable {prog : Program} {w : World} {M : Model} {A : Around} {E : Value → Shared → Prop} {R : Result → Shared → Prop} {h : Heap} {g : Array GenState} {d : Drawn} {t : Nat} {os : OsState}
variable {nm q : Str} {C N : Addr} {bs bm bmB : List Value} {hdct : Bool} {sn : List Str} {sub : List Value} {ab : Bool} {col : Option Bool} {dd : Option Addr} {k0 k1 k2 k3 k5 : Option Value} {B newId initId : String}
variable {rest : List Value} {kw : List (Str × Value)}

/-- what is asked of the class's chain: the built-in base is in it, the two bases with members of their own are not -/
structure Chain (bm : List Value) (B : String) : Prop where
  base : bm.contains (.type B) = true
  noA : bm.contains (.type "AttributeError") = false
  noN : bm.contains (.type "NameError") = false

theorem checkNew (F : ExcBaseFacts B newId initId bmB) (ch : Chain bm B) {Q : Unit → Shared → Prop} (atC : h.get? C = some (excClassObj nm q C N bs bm hdct sn sub ab col dd k0 k1 k2 k3 k5 newId))
    (hq : Q () ⟨h, g, d, t, os⟩) : wpAny M A (checkBuiltinCall newId ⟨.ref C :: rest, kw⟩) Q E ⟨h, g, d, t, os⟩ := by
  have inB : (Value.ref C :: bm).contains (.type B) = true := by
    rw [List.contains_cons, ch.base, Bool.or_true]
  have star := F.noStar
  simp only [checkBuiltinCall, F.newKind, F.newSplit, F.newRow]
  repeat (first
    | refine wpAny_loadPart_at atC ?_
    | (refine wpAny_isSubtype_exc atC ?_; rw [inB])
    | refine wpAny_staticBase_exc atC ?_
    | refine wpAny_madeBy_exc atC ?_
    | simp only [bne_self_eq_false, Bool.false_eq_true, if_false]
    | wp_step)
  exact hq

theorem runNew (F : ExcBaseFacts B newId initId bmB) (ch : Chain bm B) (atC : h.get? C = some (excClassObj nm q C N bs bm hdct sn sub ab col dd k0 k1 k2 k3 k5 newId)) (short : rest.length ≤ sizeLine)
    (hq : R (.ok (.ret (.ref (h.objs.size + 1)))) ⟨(h.push (W.kdv_tup rest)).push (HandSPX.excO C h.objs.size), g, d, t, os⟩) :
    codeAny (model prog w) A (.builtin newId ⟨.ref C :: rest, kw⟩) R ⟨h, g, d, t, os⟩ := by
  have ends := F.ends
  have inB : (Value.ref C :: bm).contains (.type B) = true := by
    rw [List.contains_cons, ch.base, Bool.or_true]
  have outA : (Value.ref C :: bm).contains (.type "AttributeError") = false := by
    rw [List.contains_cons, ch.noA]
    rfl
  have outN : (Value.ref C :: bm).contains (.type "NameError") = false := by
    rw [List.contains_cons, ch.noN]
    rfl
  refine codeAny_builtinAt F.entry ?_
  unfold Builtin.«BaseException.__new__»
  apply wpAt_bind
  show wpAt _ _ _ (stack >>= _) _ _ _
  apply wpAt_bind
  apply wpAt_stack
  intro p below
  apply wpAt_of_wpAny
  wp_walk
  apply wpAt_of_wpAny
  rw [F.owner]
  repeat (first
    | with_reducible refine wpAny_madeHere_exc F.canon atC ?_
    | with_reducible refine wpAny_loadPart_at atC ?_
    | (with_reducible refine wpAny_isSubtype_exc atC ?_; first | rw [inB] | rw [outA] | rw [outN])
    | wp_step)
  show R _ _
  rw [Heap.size_push]
  exact hq

theorem runCall (F : ExcBaseFacts B newId initId bmB) (ch : Chain bm B) {iv : Value} {Q : Fin → Shared → Prop} (atC : h.get? C = some (excClassObj nm q C N bs bm hdct sn sub ab col dd k0 k1 k2 k3 k5 newId))
    (lk : W.Looks (model prog w) h (typeLookup (.ref C) "__init__") (some iv)) (bd : ∀ self, W.Looks (model prog w) h (bindSpecial iv self) (iv, [self])) (short : rest.length ≤ sizeLine)
    (hq : codeAny (model prog w) A (.call iv ⟨.ref (h.objs.size + 1) :: rest, kw⟩)
      (fun r s' => match r with
        | .ok (.ret v) => v = .none ∧ Q (.done (.ret (.ref (h.objs.size + 1)))) s'
        | .ok _ => False
        | .error e => E e s')
      ⟨(h.push (W.kdv_tup rest)).push (HandSPX.excO C h.objs.size), g, d, t, os⟩) :
    wpAny (model prog w) A (Builtin.«type.__call__» ⟨.ref C :: rest, kw⟩) Q E ⟨h, g, d, t, os⟩ := by
  repeat (first
    | with_reducible refine wpAny_loadPart_at atC ?_
    | with_reducible refine wpAny_madeBy_exc atC ?_
    | wp_step)
  refine codeAny_call_builtin_code (Code.quiet_builtin _ F.quiet) (checkNew F ch atC ?_)
  refine runNew F ch atC short ?_
  show wpAny _ _ _ _ _ _
  have grown : ∀ b o, h.get? b = some o → ((h.push (W.kdv_tup rest)).push (HandSPX.excO C h.objs.size)).get? b = some o :=
    fun b o e => Heap.get?_push_of_some _ (Heap.get?_push_of_some _ e)
  have atC1 := grown _ _ atC
  have made : ((h.push (W.kdv_tup rest)).push (HandSPX.excO C h.objs.size)).get? (h.objs.size + 1) = some (HandSPX.excO C h.objs.size) := by heap_get
  have self_ : (Value.ref C :: bm).contains (.ref C) = true := by simp
  have lk1 := lk.keeps grown
  have bd1 := (bd (.ref (h.objs.size + 1))).keeps grown
  unfold isInstance
  repeat (first
    | with_reducible refine wpAny_loadPart_at made ?_
    | (with_reducible refine wpAny_isSubtype_exc atC1 ?_; rw [self_])
    | wp_step)
  show wpAny _ _ (typeLookup (.ref C) _) _ _ _
  refine lk1.at ?_
  refine wpAny_holding (wpAny_bind (bd1.at ?_))
  apply wpAny_bind
  refine wpAny_call (codeAny_mono hq ?_)
  intro r s' z
  match r, z with
  | .error e, z => exact z
  | .ok (.ret v), z =>
    obtain ⟨rfl, z⟩ := z
    first
      | exact wpAny_pure (wpAny_pure z)
      | (wp_walk; exact z)

theorem callE (F : ExcBaseFacts B newId initId bmB) (ch : Chain bm B) {iv : Value} (atC : h.get? C = some (excClassObj nm q C N bs bm hdct sn sub ab col dd k0 k1 k2 k3 k5 newId))
    (lk : W.Looks (model prog w) h (typeLookup (.ref C) "__init__") (some iv)) (bd : ∀ self, W.Looks (model prog w) h (bindSpecial iv self) (iv, [self])) (short : rest.length ≤ sizeLine)
    (hq : codeAny (model prog w) (A.under (.builtin "type.__call__" ⟨.ref C :: rest, kw⟩)) (.call iv ⟨.ref (h.objs.size + 1) :: rest, kw⟩) (W.InitBack (h.objs.size + 1) R)
      ⟨(h.push (W.kdv_tup rest)).push (HandSPX.excO C h.objs.size), g, d, t, os⟩) :
    codeAny (model prog w) A (.call (.ref C) ⟨rest, kw⟩) R ⟨h, g, d, t, os⟩ := by
  have e1 := tc_lookup
  have e2 := tc_bind (.ref C)
  have isT : (⟨h, g, d, t, os⟩ : Shared).TypeIs (.ref C) "type" := ⟨_, atC, rfl⟩
  apply codeAny_of_tree
  show wpAny _ _ (callAny (.ref C) _) _ _ _
  repeat (any_goals (first
    | assumption
    | with_reducible refine wpAny_loadPart_at atC ?_
    | wp_step))
  refine ⟨rfl, ?_⟩
  refine codeAny_call_builtin_at (Code.quiet_builtin _ (by decide +kernel)) entry_typeCall ?_
  refine wpAny_check_type_call_sub atC ?_
  refine runCall F ch atC lk bd short (codeAny_mono hq ?_)
  intro r s' z
  match r, z with
  | .error e, z => exact z
  | .ok (.ret v), z => exact z
end
end WbE
end PySem

set_option Elab.async false
set_option linter.all false
set_option maxRecDepth 100000
set_option maxHeartbeats 4000000
/-! Wb3: own exceptions as tracked values. -/
namespace PySem.F
theorem storeKeyError : StoreFacts "KeyError"
    [.type "KeyError", .type "LookupError", .type "Exception", .type "BaseException", .type "object"]
    "object.__setattr__" "object" := by
  refine ⟨by kernel_rfl, ?_, entry_object_sa, by decide +kernel, by decide +kernel, by decide +kernel, ?_, fun _ => by kernel_rfl⟩
  · refine .of (owner := "object") (n := "__setattr__") ?_ (by decide +kernel) (by decide +kernel) (by decide +kernel) ?_ ?_
    · rw [typeLookup_type, builtinLookup_eq_fast]
      kernel_rfl
    · first
        | exact .inl (by decide +kernel)
        | exact .inr (by decide +kernel)
    · rw [isSubtype_type]
      kernel_rfl
  · intro a b c
    unfold argsOk
    kernel_rfl
end PySem.F
namespace PySem
namespace WbE
open PySem.W PySem.Calls PyProof.Rows
section
open Builtin Builtin.ObjectAttr
variable {prog : Program} {w : World} {A : Around} {R : Result → Shared → Prop} {hp : Heap} {g : Array GenState} {d : Drawn} {t : Nat} {os : OsState}
/-- the first field of an exception of an own class, whatever its built-in base -/
theorem setFirst {S : String} {bmS : List Value} {K : W.Frag} {name : Str} {tk : Tok} {v : Value} {x C : Addr} {fv : Array Value} {cd : ClassData} (SF : StoreFacts S bmS "object.__setattr__" "object")
    (X : K.In hp) (hx : hp.get? x = some { cls := .ref C, data := .fields fv }) (hcd : W.clsIn K C = some cd) (hd : cd.hasDict = true) (over : excOver K C bmS = true) (no : W.findIn K (.ref C) name = some none)
    (hq : ∀ h' tk' dx, (∀ b o, b ≠ x → hp.get? b = some o → h'.get? b = some o) → hp.objs.size ≤ dx → dx ≠ x →
      h'.get? x = some { cls := .ref C, dict := some dx, data := .fields fv } → h'.Ns1 dx (fun y => if y = name then some v else none) → R (.ok (.ret .none)) ⟨h', g, d, tk', os⟩) :
    codeAny (model prog w) A (.call (.builtin "object.__setattr__") ⟨[.ref x, .str name tk, v], []⟩) R ⟨hp, g, d, t, os⟩ := by
  have at_ : W.InstAt hp x { cls := .ref C, data := .fields fv } C none := ⟨hx, rfl, rfl, trivial⟩
  have ne : x ≠ hp.objs.size := Nat.ne_of_lt (Heap.lt_size hx)
  have look : W.Looks (model prog w) hp (classData C) cd := W.looks_clsIn X hcd
  have taker : W.takerIn K C name = some none := by
    unfold W.takerIn
    rw [no]
    rfl
  refine W.osa_openX (s := ⟨hp, g, d, t, os⟩) SF X at_ over taker fun b => ?_
  obtain ⟨c1, c2, c3, c4, c5, hasD, c7, c8, c9, c10, c11⟩ := cd
  dsimp only at hd
  subst hd
  unfold storeInOwnDict ownDictForStores
  repeat (first
    | with_reducible refine HandSPX.store_in_new ?_ ?_
    | with_reducible refine wpAny_loadPart_at hx ?_
    | with_reducible refine look.at ?_
    | wp_step)
  · exact ⟨_, #[], _, (Heap.get?_update_ne _ _ _ _ ne.symm).trans (Heap.get?_push_at rfl rfl), rfl, fun e he => absurd he (by simp), fun _ => rfl⟩
  · intro h' tk' ns' same
    have pushed : (hp.push { cls := .type "dict", data := .dict #[] }).get? x = some { cls := .ref C, data := .fields fv } := Heap.get?_push_of_some _ hx
    refine hq h' tk' hp.objs.size ?_ (Nat.le_refl _) ne.symm ?_ ns'
    · intro b o hb ho
      rw [same.2 b (Nat.ne_of_lt (Heap.lt_size ho)), Heap.get?_update_ne _ _ _ _ hb]
      exact Heap.get?_push_of_some _ ho
    · rw [same.2 x ne]
      exact Heap.get?_update_self _ pushed rfl
end
end WbE
end PySem

namespace Wb
open PySem PySem.Spec PyProof.Rows L2
/-- what the written part says of an own exception's class at C: made by newId (of the built-in B), the fields stored as S's chain stores them -/
structure ErrC (K : PySem.W.Frag) (C : Addr) : Prop where
  new : ∃ (B newId initId : String) (bmB : List Value) (nm q : Str) (N : Addr) (bs bm : List Value) (sn : List Str) (sub : List Value) (ab : Bool) (col : Option Bool) (dd : Option Addr) (k0 k1 k2 k3 k5 : Option Value),
    PySem.ExcBaseFacts B newId initId bmB ∧ PySem.WbE.Chain bm B ∧ K.lookup C = some (excClassObj nm q C N bs bm true sn sub ab col dd k0 k1 k2 k3 k5 newId)
  store : ∃ (S : String) (bmS : List Value), PySem.StoreFacts S bmS "object.__setattr__" "object" ∧ PySem.W.excOver K C bmS = true
  sa : PySem.W.findIn K (.ref C) "__setattr__" = some (some (.builtin "object.__setattr__"))
  ga : PySem.W.findIn K (.ref C) "__getattribute__" = some (some (.builtin "BaseException.__getattribute__"))
  gg : PySem.W.findIn K (.ref C) "__getattr__" = some none
  exc : PySem.W.subIn K (.ref C) (.type "BaseException") = some true
  ty : PySem.W.typeIn K (.ref C) = some (.type "type")
  hd : PySem.W.hasDictIn K C = true
  kp : PySem.W.keepIn K (.ref C) = true
  hc : PySem.W.findIn K (.ref C) "__class__" = some (some (.builtin "object.__class__"))
  hn : PySem.W.specialIn K (.builtin "object.__class__") "__get__" = some (some (.builtin "getset_descriptor.__get__"))
  ht : PySem.W.takesIn K (.builtin "object.__class__") = some true
  hm : PySem.W.mroIn K C (.type "object") = some true

section
variable {X : Cx} {pins : List (Addr × Obj)} {σ : L2.St} {H : Hp} {s : Shared} {a C dx fI : Addr} {f : Str} {y v : V} {u : Value} {fs : List (Str × V)} {A : Around} {k : Nat}
/-- self.f = y in an __init__, the first field -/
theorem setNew {Q : Unit → Shared → Prop} {E : Value → Shared → Prop} (T : ErrC X.K C) (I : Inv X pins σ H s) (e : H a = some (exo a C none)) (no : PySem.W.findIn X.K (.ref C) f = some none) (ry : RelV y u)
    (h : ∀ dx s', H dx = none → dx ≠ a → Inv X pins σ (upd (upd H dx (exd dx [(f, y)])) a (exo a C (some dx))) s' → Q () s') : wpAny (model X.prog X.w) A (setAttr (.ref a) f u) Q E s := by
  obtain ⟨B, newId, initId, bmB, nm, q, N, bs, bm, sn, sub, ab, col, dd, k0, k1, k2, k3, k5, _, _, atC⟩ := T.new
  obtain ⟨S, bmS, SF, over⟩ := T.store
  have cls : PySem.W.clsIn X.K C = some { name := nm, bases := bs, mro := .ref C :: bm, ns := N, qualname := q, hasDict := true, slotNames := sn, subclasses := sub, abstract := ab, collection := col, hasDel := false } := by
    unfold PySem.W.clsIn
    rw [atC] <;> rfl
  obtain ⟨t1, ho⟩ := exo_at I.hok e
  obtain ⟨hp, g, d, t, os⟩ := s
  refine PySem.W.set_plain I.kIn (ox := { cls := .ref C, dict := none, data := .fields #[.ref t1, .none, .none, .none, .bool false, .none] }) (od := none) ⟨ho, rfl, rfl, trivial⟩ T.sa ?_
  refine PySem.WbE.setFirst SF I.kIn ho cls rfl over no ?_
  intro h' tk' dx kept big ne hx ns'
  have free : H dx = none := I.hok.fresh big
  have old : ∀ {b : Addr} {o : Obj}, hp.get? b = some o → b ≠ dx := fun {b o} z => Nat.ne_of_lt (Nat.lt_of_lt_of_le (Heap.lt_size z) big)
  have notA : ∀ {b : Addr}, H b = none → b ≠ a := by
    intro b n z
    rw [z, e] at n
    cases n
  have un : Un X.fs [] H (upd (upd H dx (exd dx [(f, y)])) a (exo a C (some dx))) hp h' := by
    constructor
    · exact fun b o z n _ _ => kept b o (notA n) z
    · exact fun b o z n _ _ => ⟨o.slots, kept b o (notA n) z⟩
    · intro b o z n _
      rw [upd_ne (notA n), upd_ne (old z)]
      exact n
    · intro b o z _
      by_cases hb : b = a
      · exact ⟨_, by rw [hb]; exact hx⟩
      · exact ⟨o, kept b o hb z⟩
    · intro b xs z
      rw [upd_ne (at_ne e z exo_tup), upd_ne (ne_of_none z free)]
      exact z
    · intro b o w z
      rw [upd_ne (at_ne e z exo_frz), upd_ne (ne_of_none z free)]
      exact z
    · intro b ps z
      refine ⟨#[], ?_⟩
      rw [upd_ne (at_ne e z exo_tbl), upd_ne (ne_of_none z free), z]
      simp
  refine h dx _ free ne (I.un (t' := tk') un ?_)
  intro b o z
  by_cases hb : b = a
  · subst hb
    rw [upd_same] at z
    cases z
    exact exo_ok hx
  rw [upd_ne hb] at z
  by_cases hb2 : b = dx
  · subst hb2
    rw [upd_same] at z
    cases z
    exact exd_ok ns' (relO_put (fs := []) ry fun g => True.intro)
  rw [upd_ne hb2] at z
  refine (I.hok b o z).stay ?_ ?_ ?_
  · intro c w hc z2
    refine kept c w ?_ z2
    rcases hc with hc | hc
    · rw [hc]; exact hb
    · exact at_ne e hc exo_own
  · intro c hc
    rw [upd_ne (at_ne e hc exo_own), upd_ne (ne_of_none hc free)]
    exact hc
  · intro c xs hc
    rw [upd_ne (at_ne e hc exo_tup), upd_ne (ne_of_none hc free)]
    exact hc

/-- C(..), C(k = ..) with C's own __init__: an exception at a new address -/
theorem runErr {CX : CXT} {fd : FuncData} {ps : List Str} {sp : Sp} {us : List Value} {kw : List (Str × Value)} {vs : List V} {binds : List Value} {Q : VK} (T : ErrC X.K C) (iC : PySem.W.findIn X.K (.ref C) "__init__" = some (some (.ref fI)))
    (tI : PySem.W.typeIn X.K (.ref fI) = some (.type "function")) (F1 : FnOk X.prog X.w X.K X.mg X.base CX k fI fd ps sp) (room : Room (k + 1) X.A) (hx : Passes CX X (fun _ _ _ => False)) (I : Inv X pins σ H s) (short : us.length ≤ sizeLine)
    (bind : ∀ (s' : Shared) (a : Addr), X.K.In s'.heap → BindsTo s' fd ⟨.ref a :: us, kw⟩ (ps.zip (.ref a :: binds))) (rel : Vals vs binds)
    (h : ∀ a, H a = none → sp (.ref a :: vs) (upd H a (exo a C none)) (fun v H2 => v = .non ∧ Q (.ref a) H2) (fun _ _ _ => False)) :
    wpAny (model X.prog X.w) X.A (call (.ref C) us kw) (EP X pins σ Q) X.xe s := by
  obtain ⟨B, newId, initId, bmB, nm, q, N, bs, bm, sn, sub, ab, col, dd, k0, k1, k2, k3, k5, FB, ch, atC⟩ := T.new
  obtain ⟨hp, g, dr, tk, os⟩ := s
  have le1 : hp.objs.size ≤ hp.objs.size + 1 := Nat.le_succ _
  have free : H (hp.objs.size + 1) = none := I.hok.fresh le1
  have want := h _ free
  have grown : ∀ b o, hp.get? b = some o → ((hp.push (PySem.W.kdv_tup us)).push (PySem.HandSPX.excO C hp.objs.size)).get? b = some o :=
    fun b o e => Heap.get?_push_of_some _ (Heap.get?_push_of_some _ e)
  have made : ((hp.push (PySem.W.kdv_tup us)).push (PySem.HandSPX.excO C hp.objs.size)).get? (hp.objs.size + 1) = some (PySem.HandSPX.excO C hp.objs.size) := by heap_get
  have I2 : Inv X pins σ (upd H (hp.objs.size + 1) (exo (hp.objs.size + 1) C none)) ⟨(hp.push (PySem.W.kdv_tup us)).push (PySem.HandSPX.excO C hp.objs.size), g, dr, tk, os⟩ :=
    I.laid (t' := tk) (a := hp.objs.size + 1) (o := exo (hp.objs.size + 1) C none) (h' := (hp.push (PySem.W.kdv_tup us)).push (PySem.HandSPX.excO C hp.objs.size)) grown le1 (exo_ok made)
  have rel2 : Vals (V.ref (hp.objs.size + 1) :: vs) (Value.ref (hp.objs.size + 1) :: binds) := .cons rfl rel
  apply wpAny_call
  refine PySem.WbE.callE (iv := .ref fI) FB ch (I.kIn _ _ atC) (PySem.W.looks_findIn I.kIn iC) (fun self => PySem.W.bind_fn I.kIn self tI) short ?_
  refine codeAny_mono (F1.run _ X.stack _ _ ⟨Value.ref (hp.objs.size + 1) :: us, kw⟩ (Value.ref (hp.objs.size + 1) :: binds) _ _ (fun _ _ _ => False) (room.make C us kw) (I2.env0.make C us kw) (bind _ _ I2.kIn) rel2 want) ?_
  intro r s' got
  match r, got with
  | .error er, got => exact hx pins σ _ _ er s' I2 got
  | .ok (.ret u), got =>
    obtain ⟨v, H', I3, rv, ev, q3⟩ := I2.after got
    subst ev
    exact ⟨rv, ⟨V.ref (hp.objs.size + 1), H', I3, rfl, q3⟩⟩
end
end Wb

set_option Elab.async false
set_option linter.all false
set_option maxRecDepth 100000
set_option maxHeartbeats 4000000
/-! Wb4: the rules over them. -/
namespace Wb
open PySem PySem.Spec PyProof.Rows L2

theorem upd_mid {H : Hp} {a d : Addr} {o p q : HO} : upd (upd (upd H a o) d p) a q = upd (upd H d p) a q := by
  funext b
  unfold upd
  by_cases h : b = a
  · rw [if_pos h, if_pos h]
  · rw [if_neg h, if_neg h]
    by_cases h2 : b = d
    · rw [if_pos h2, if_neg h]
    · rw [if_neg h2, if_neg h]

/-- self.f = e of an exception's __init__ -/
def tIni (K : PySem.W.Frag) (f : Str) (to te : TE) : TS := fun D σ H => te σ H fun y H1 => to σ H1 fun x H2 =>
  ∃ a C : Addr, x = .ref a ∧ ErrC K C ∧ PySem.W.findIn K (.ref C) f = some none ∧ H2 a = some (exo a C none) ∧
    ∀ dx, H2 dx = none → dx ≠ a → D.nx σ (upd (upd H2 dx (exd dx [(f, y)])) a (exo a C (some dx)))
/-- err.f -/
def tEFld (K : PySem.W.Frag) (f : Str) (to : TE) : TE := fun σ H Q => to σ H fun x H1 =>
  ∃ (a C dx : Addr) (fs : List (Str × V)) (v : V), x = .ref a ∧ H1 a = some (exo a C (some dx)) ∧ H1 dx = some (exd dx fs) ∧ ErrC K C ∧ PySem.W.findIn K (.ref C) f = some none ∧ fs.lookup f = some v ∧ Q v H1
/-- isinstance(err, c) -/
def rIsErr (K : PySem.W.Frag) : List V → Hp → VK → Prop := fun xs H Q =>
  ∃ (a C : Addr) (od : Option Addr) (c : V) (cu : Value) (b : Bool), xs = [.ref a, c] ∧ H a = some (exo a C od) ∧ (∀ dx, od = some dx → ∃ fs, H dx = some (exd dx fs)) ∧ ErrC K C ∧ ClsV c cu ∧
    PySem.W.kitOne K (.ref C) cu = some b ∧ Q (.bl b) H
/-- C(v): an exception at a, its dict at dx -/
def tErr (C : Addr) (f : Str) (ta : TA) : TE := fun σ H Q => ta σ H fun vs H1 =>
  ∃ v, vs = [v] ∧ ∀ a dx, H1 a = none → H1 dx = none → dx ≠ a → Q (.ref a) (upd (upd H1 dx (exd dx [(f, v)])) a (exo a C (some dx)))
/-- the same, to be raised -/
def tErrX (C : Addr) (f : Str) (ta : TA) : L2.St → Hp → XK → Prop := fun σ H Q => ta σ H fun vs H1 =>
  ∃ v, vs = [v] ∧ ∀ dx, H1 dx = none → Q (.ref C) (some dx) (upd H1 dx (.xd [(f, v)]))
/-- __init__(self, f): self.f = f -/
def spIni (C : Addr) (f : Str) : Sp := fun vs H Q _ => ∃ (a : Addr) (v : V), vs = [.ref a, v] ∧ H a = some (exo a C none) ∧
  ∀ dx, H dx = none → dx ≠ a → Q .non (upd (upd H dx (exd dx [(f, v)])) a (exo a C (some dx)))
/-- __init__(self): pass -/
def spIni0 : Sp := fun vs H Q _ => ∃ a : Addr, vs = [.ref a] ∧ Q .non H

section
variable {X : Cx} {o e : Expr} {es : List Expr} {kws : List Keyword} {to te : TE} {ta : TA} {f x : Str} {p p' pos : Pos} {C fI : Addr} {fd : FuncData} {CX : CXT} {k : Nat}
theorem ps_ini (ho : PE X o to) (he : PE X e te) (hs : swapsWith e (some (.Attribute o f p')) pos.line X.env = pure false := by rfl) : PS X (.Assign [.Attribute o f p'] e pos) (tIni X.K f to te) := by
  constructor
  intro pins s σ H D I h
  refine plainObj_wpAny_Assign_Attribute (thn (he.run pins s σ H _ I h) ?_) hs
  rintro v s1 ⟨y, H1, I1, ry, q1⟩
  refine thn (ho.run pins s1 σ H1 _ I1 q1) ?_
  rintro u s2 ⟨x, H2, I2, rx, a, C, rfl, T, no, ea, q⟩
  obtain rfl : u = Value.ref a := rx
  exact setNew T I2 ea no ry fun dx s' n ne J => ⟨σ, _, J, q dx n ne⟩

theorem readErr {pins : List (Addr × Obj)} {σ : L2.St} {H : Hp} {s : Shared} {a dx : Addr} {fs : List (Str × V)} {v : V} {b : Bool} {A : Around} {Q : Value → Shared → Prop} {E : Value → Shared → Prop} (T : ErrC X.K C) (I : Inv X pins σ H s) (ea : H a = some (exo a C (some dx)))
    (ed : H dx = some (exd dx fs)) (no : PySem.W.findIn X.K (.ref C) f = some none) (l : fs.lookup f = some v) (h : ∀ u t', RelV v u → Q u { s with toks := t' }) : wpAny (model X.prog X.w) A (getAttr (.ref a) f b) Q E s := by
  obtain ⟨t1, ho⟩ := exo_at I.hok ea
  obtain ⟨mA, hns, rel⟩ := exd_at I.hok ed
  obtain ⟨od, hod, look⟩ := lookIn_ns hns
  obtain ⟨u, hu, ru⟩ := RelO.some_of (v := v) (o := mA f) (by rw [← l]; exact rel f)
  exact PySem.HandSPX.exc_get (od := some od) I.kIn ⟨ho, rfl, rfl, hod⟩ T.ga T.gg T.exc (PySem.W.findObj_own T.hd no rfl (by rw [look, hu])) (handed_of ru) (h u _ ru)

theorem pe_efld (ho : PE X o to) (hb : attributeBase o f X.env (eval o X.env) = eval o X.env := by rfl) : PE X (.Attribute o f pos) (tEFld X.K f to) := by
  constructor
  intro pins s σ H Q I h
  refine attr_of hb (thn (ho.run pins s σ H _ I h) ?_)
  rintro u s1 ⟨x, H1, I1, rx, a, C, dx, fs, v, rfl, ea, ed, T, no, l, q⟩
  obtain rfl : u = Value.ref a := rx
  exact readErr T I1 ea ed no l fun w t' rw' => ⟨v, H1, I1.tok t', rw', q⟩

theorem call_isErr : CallR X (.builtin "isinstance") (rIsErr X.K) := by
  intro pins s σ H xs us Q I r h
  obtain ⟨a, C, od, c, cu, b, rfl, ea, hod, T, kc, ek, q⟩ := h
  obtain ⟨u1, u2, rfl, r1, r2⟩ := vals2 r
  obtain rfl : u1 = Value.ref a := r1
  have e2 := kc.eq r2
  subst e2
  obtain ⟨t1, ho⟩ := exo_at I.hok ea
  have cls : (PySem.W.clsIn X.K C).isSome = true := by
    obtain ⟨cd, hcd, _⟩ := PySem.W.any_some T.hd
    rw [hcd]
    rfl
  have fin : ∀ tk, EP X pins σ Q (.bool b) { s with toks := tk } := fun tk => ⟨.bl b, H, I.tok tk, rfl, q⟩
  cases od with
  | none =>
    exact PySem.W.kia_one (PySem.W.kitx_exc (od := none) cls T.ga T.gg T.exc T.hc T.hn T.ht T.hm) I.kIn (⟨ho, rfl, rfl, trivial⟩ : PySem.W.InstAt s.heap a _ C none) ek (fun z => nomatch z) fin
  | some dx =>
    obtain ⟨fs, ed⟩ := hod dx rfl
    obtain ⟨mA, hns, _⟩ := exd_at I.hok ed
    obtain ⟨od, hod, _⟩ := lookIn_ns hns
    exact PySem.W.kia_one (PySem.W.kitx_exc (od := some od) cls T.ga T.gg T.exc T.hc T.hn T.ht T.hm) I.kIn (⟨ho, rfl, rfl, hod⟩ : PySem.W.InstAt s.heap a _ C (some od)) ek (fun z => nomatch z) fin

/-- C(e) -/
theorem pe_err (T : ErrC X.K C) (iC : PySem.W.findIn X.K (.ref C) "__init__" = some (some (.ref fI))) (tI : PySem.W.typeIn X.K (.ref fI) = some (.type "function")) {ps : List Str} (F1 : FnOk X.prog X.w X.K X.mg X.base CX k fI fd ps (spIni C f)) (room : Room (k + 1) X.A)
    (hb : Binds X.K fd ps []) (hx : Passes CX X (fun _ _ _ => False)) (hg : Gl X x) (hm : X.mg x = some (.ref C)) (ha : PA X (e :: es) ta) (hdb : (x == ("__debug__" : Str)) = false := by decide)
    (he : starEach (e :: es) X.env = (false, eval e X.env) :: starEach es X.env := by rfl) (hpl : (backTo pos (starEach es X.env)).any (·.1) = false := by rfl) : PE X (.Call (.Name x p) (e :: es) [] pos) (tErr C f ta) := by
  constructor
  intro pins s σ H Q I h
  apply wpAny_Call_Name_kw
  apply ld_glob I hg hm _ hdb
  refine PySem.W.callWith_K (h₀ := X.base) I.ok.mod.kin T.kp (thn (ha.run pos pins s σ H _ I h) ?_) he hpl
  rintro us s1 ⟨vs, H1, I1, r1, v, rfl, q⟩
  refine ⟨I1.kIn, ?_⟩
  show wpAny _ _ (call (.ref C) us) _ _ _
  have want : ∀ a : Addr, H1 a = none → spIni C f (.ref a :: [v]) (upd H1 a (exo a C none)) (fun v H2 => v = .non ∧ Q (.ref a) H2) (fun _ _ _ => False) := by
    intro a ha
    refine ⟨a, v, rfl, upd_same, fun dx hd ne => ⟨rfl, ?_⟩⟩
    rw [upd_mid]
    rw [upd_ne ne] at hd
    exact q a dx ha hd ne
  have many : ∀ a : Addr, (Value.ref a :: us).length = ps.length := by
    intro a
    obtain ⟨n0, hn0⟩ : ∃ n0, H1 n0 = none := ⟨s1.heap.objs.size, I1.hok.fresh (Nat.le_refl _)⟩
    have e1 := F1.len _ _ _ _ (want n0 hn0)
    have e2 := r1.length
    simp only [List.length_cons] at e1 e2 ⊢
    omega
  refine runErr T iC tI F1 room hx I1 (binds := us) (vs := [v]) ?_ ?_ r1 want
  · rw [← r1.length, sizeLine_eq]
    simp
  · intro s' a inK
    have q2 := hb s' (.ref a :: us) inK (by rw [List.append_nil]; exact many a)
    rw [List.append_nil] at q2
    exact q2

/-- C(f = e) -/
theorem pe_errK {g : Str} {kpos : Pos} (T : ErrC X.K C) (iC : PySem.W.findIn X.K (.ref C) "__init__" = some (some (.ref fI))) (tI : PySem.W.typeIn X.K (.ref fI) = some (.type "function")) {s0 : Str} (F1 : FnOk X.prog X.w X.K X.mg X.base CX k fI fd [s0, g] (spIni C f)) (room : Room (k + 1) X.A)
    (hb : ∀ (s' : Shared) (a v : Value), BindsTo s' fd ⟨[a], [(g, v)]⟩ [(s0, a), (g, v)]) (hx : Passes CX X (fun _ _ _ => False)) (hg : Gl X x) (hm : X.mg x = some (.ref C)) (he : PE X e te) (hdb : (x == ("__debug__" : Str)) = false := by decide) :
    PE X (.Call (.Name x p) [] [⟨some g, e, kpos⟩] pos) (tErr C f (tCons te tNil)) := by
  constructor
  intro pins s σ H Q I h
  apply wpAny_Call_Name_kw
  apply ld_glob I hg hm _ hdb
  have pk : PK X [⟨some g, e, kpos⟩] (tCons te tNil) := pk_cons he pk_nil
  refine PySem.W.callWith_KW0 (h₀ := X.base) I.ok.mod.kin T.kp (by rfl) (thn (pk.run pos pins s σ H _ I h) ?_)
  rintro us s1 ⟨vs, H1, I1, r1, v, rfl, q⟩
  refine ⟨I1.kIn, ?_⟩
  have want : ∀ a : Addr, H1 a = none → spIni C f (.ref a :: [v]) (upd H1 a (exo a C none)) (fun v H2 => v = .non ∧ Q (.ref a) H2) (fun _ _ _ => False) := by
    intro a ha
    refine ⟨a, v, rfl, upd_same, fun dx hd ne => ⟨rfl, ?_⟩⟩
    rw [upd_mid]
    rw [upd_ne ne] at hd
    exact q a dx ha hd ne
  cases r1 with
  | cons rv rn =>
  cases rn
  rename_i u
  refine runErr (us := []) (kw := [(g, u)]) T iC tI F1 room hx I1 (binds := [u]) (vs := [v]) (by rw [sizeLine_eq]; simp) ?_ (.cons rv .nil) want
  intro s' a inK
  exact hb s' _ _
end
end Wb

set_option Elab.async false
set_option linter.all false
set_option maxRecDepth 100000
set_option maxHeartbeats 4000000
/-! Wb5: own exceptions raised; those whose __init__ does nothing; those without one. -/
namespace Wb
open PySem PySem.Spec PyProof.Rows L2

section
variable {X : Cx} {e : Expr} {es : List Expr} {te : TE} {ta : TA} {f x : Str} {p p' pos : Pos} {C fI : Addr} {fd : FuncData} {CX : CXT} {k : Nat}
theorem untracked' {H : Hp} {a dx : Addr} {o o' u : HO} {z : HO} (ha : H a = none) (ne : dx ≠ a) : upd (del (upd (upd (upd H a o) dx u) a o') a) dx z = upd H dx z := by
  funext b
  unfold upd del
  by_cases h : b = dx
  · rw [if_pos h, if_pos h]
  · rw [if_neg h, if_neg h]
    by_cases h2 : b = a
    · rw [if_pos h2, h2, ha]
    · rw [if_neg h2]
      show (if b = a then some o' else if b = dx then some u else if b = a then some o else H b) = H b
      rw [if_neg h2, if_neg h, if_neg h2]

/-- C(e), to be raised -/
theorem pmk_err (T : ErrC X.K C) (iC : PySem.W.findIn X.K (.ref C) "__init__" = some (some (.ref fI))) (tI : PySem.W.typeIn X.K (.ref fI) = some (.type "function")) {ps : List Str} (F1 : FnOk X.prog X.w X.K X.mg X.base CX k fI fd ps (spIni C f)) (room : Room (k + 1) X.A)
    (hb : Binds X.K fd ps []) (hx : Passes CX X (fun _ _ _ => False)) (hg : Gl X x) (hm : X.mg x = some (.ref C)) (ha : PA X (e :: es) ta) (hdb : (x == ("__debug__" : Str)) = false := by decide)
    (he : starEach (e :: es) X.env = (false, eval e X.env) :: starEach es X.env := by rfl) (hpl : (backTo pos (starEach es X.env)).any (·.1) = false := by rfl) : PMk X (.Call (.Name x p) (e :: es) [] pos) (tErrX C f ta) := by
  intro pins s σ H Q I h
  obtain ⟨B, newId, initId, bmB, nm, q, N, bs, bm, sn, sub, ab, col, dd, k0, k1, k2, k3, k5, FB, ch, atC⟩ := T.new
  apply wpAny_Call_Name_kw
  apply ld_glob I hg hm _ hdb
  refine PySem.W.callWith_K (h₀ := X.base) I.ok.mod.kin T.kp (thn (ha.run pos pins s σ H _ I h) ?_) he hpl
  rintro us s1 ⟨vs, H1, I1, r1, v, rfl, q1⟩
  refine ⟨I1.kIn, ?_⟩
  show wpAny _ _ (call (.ref C) us) _ _ _
  obtain ⟨hp, g, dr, tk, os⟩ := s1
  have le1 : hp.objs.size ≤ hp.objs.size + 1 := Nat.le_succ _
  have free : H1 (hp.objs.size + 1) = none := I1.hok.fresh le1
  have want : spIni C f (.ref (hp.objs.size + 1) :: [v]) (upd H1 (hp.objs.size + 1) (exo (hp.objs.size + 1) C none))
      (fun r H2 => r = .non ∧ ∃ d : Addr, H2 (hp.objs.size + 1) = some (exo (hp.objs.size + 1) C (some d)) ∧ H2 d = some (exd d [(f, v)]) ∧ H1 d = none ∧ Q (.ref C) (some d) (upd (del H2 (hp.objs.size + 1)) d (.xd [(f, v)]))) (fun _ _ _ => False) := by
    refine ⟨_, v, rfl, upd_same, fun dx hd ne => ⟨rfl, dx, upd_same, ?_, ?_, ?_⟩⟩
    · rw [upd_ne ne, upd_same]
    · rw [upd_ne ne] at hd
      exact hd
    · rw [untracked' free ne]
      rw [upd_ne ne] at hd
      exact q1 dx hd
  have grown : ∀ b o, hp.get? b = some o → ((hp.push (PySem.W.kdv_tup us)).push (PySem.HandSPX.excO C hp.objs.size)).get? b = some o :=
    fun b o z => Heap.get?_push_of_some _ (Heap.get?_push_of_some _ z)
  have made : ((hp.push (PySem.W.kdv_tup us)).push (PySem.HandSPX.excO C hp.objs.size)).get? (hp.objs.size + 1) = some (PySem.HandSPX.excO C hp.objs.size) := by heap_get
  have I2 : Inv X pins σ (upd H1 (hp.objs.size + 1) (exo (hp.objs.size + 1) C none)) ⟨(hp.push (PySem.W.kdv_tup us)).push (PySem.HandSPX.excO C hp.objs.size), g, dr, tk, os⟩ :=
    I1.laid (t' := tk) (a := hp.objs.size + 1) (o := exo (hp.objs.size + 1) C none) (h' := (hp.push (PySem.W.kdv_tup us)).push (PySem.HandSPX.excO C hp.objs.size)) grown le1 (exo_ok made)
  have rel2 : Vals (V.ref (hp.objs.size + 1) :: [v]) (Value.ref (hp.objs.size + 1) :: us) := .cons rfl r1
  have many : (Value.ref (hp.objs.size + 1) :: us).length = ps.length := rel2.length.symm.trans (F1.len _ _ _ _ want)
  have short : us.length ≤ sizeLine := by
    rw [← r1.length, sizeLine_eq]
    simp
  have hb2 := hb ⟨(hp.push (PySem.W.kdv_tup us)).push (PySem.HandSPX.excO C hp.objs.size), g, dr, tk, os⟩ (Value.ref (hp.objs.size + 1) :: us) I2.kIn (by rw [List.append_nil]; exact many)
  rw [List.append_nil] at hb2
  apply wpAny_call
  refine PySem.WbE.callE (iv := .ref fI) FB ch (I1.kIn _ _ atC) (PySem.W.looks_findIn I1.kIn iC) (fun self => PySem.W.bind_fn I1.kIn self tI) short ?_
  refine codeAny_mono (F1.run _ X.stack _ _ ⟨Value.ref (hp.objs.size + 1) :: us, []⟩ (Value.ref (hp.objs.size + 1) :: us) _ _ (fun _ _ _ => False) (room.make C us []) (I2.env0.make C us []) hb2 rel2 want) ?_
  intro r s' got
  match r, got with
  | .error er, got => exact hx pins σ _ _ er s' I2 got
  | .ok (.ret u), got =>
    obtain ⟨r, H2, os2, bare2, un2, ok2, rv, ev, d, ea, ed, hd1, q2⟩ := got
    subst ev
    obtain ⟨h2, g2, d2, t2, os'⟩ := s'
    exact ⟨rv, mk_end (raises_own T.exc T.ty) I1 le1 grown un2 ok2 os2 bare2 ea ed hd1 q2⟩
end

/-! ### an __init__ that does nothing -/
section
variable {prog : Program} {w : World} {A : Around} {R : Result → Shared → Prop} {s : Shared} {K : PySem.W.Frag}
theorem idle {qual : Str} {st : Stmt} {fI : Addr} {fd : FuncData} {pp : Pos} {x : Value} (inK : K.In s.heap) (lim : s.heap.NoLimit) (F : Fun K "__init__" qual st fI fd) (body : defBody st = [.Pass pp])
    (S : FnScope ["self"] ["self"] (defScope st)) (loc : (defScope st).names.lookup ("self" : Str) = some NameKind.local) (bind : BindsTo s fd ⟨[x], []⟩ [("self", x)]) (room : A.depth < recursionLimit)
    (hq : ∀ h' tk, (∀ b o, s.heap.get? b = some o → h'.get? b = some o) → R (.ok (.ret .none)) { s with heap := h', toks := tk }) :
    codeAny (model prog w) A (.call (.ref fI) ⟨[x], []⟩) R s := by
  obtain ⟨a1, a2, a3, a4, a5, a6, cdv, a8, a9, rfl, found, coded⟩ := F.ex
  refine Att.call_fn inK lim found coded room bind ?_ ?_ S.co S.gen S.kind
  · simp [loc]
  · intro s1 ic
    obtain ⟨h1, tk1, rfl⟩ := ic.toInCall.same
    rw [body]
    refine wpAny_execs_cons (wpAny_Pass ?_)
    exact wpAny_execs_nil (hq h1 tk1 ic.toInCall.keep)
end
section
variable {X : Cx} {f x : Str} {p pos : Pos} {C fI : Addr} {fd : FuncData} {k : Nat}
/-- C(): an exception at a new address -/
def tErr0 (C : Addr) : TE := fun _ H Q => ∀ a, H a = none → Q (.ref a) (upd H a (exo a C none))
def tErrX0 (C : Addr) : L2.St → Hp → XK → Prop := fun _ H Q => Q (.ref C) none H

theorem run0 {pins : List (Addr × Obj)} {σ : L2.St} {H : Hp} {s : Shared} {qual : Str} {st : Stmt} {pp : Pos} {Q : Value → Shared → Prop} {E : Value → Shared → Prop} (T : ErrC X.K C) (iC : PySem.W.findIn X.K (.ref C) "__init__" = some (some (.ref fI))) (tI : PySem.W.typeIn X.K (.ref fI) = some (.type "function"))
    (F : Fun X.K "__init__" qual st fI fd) (body : defBody st = [.Pass pp]) (S : FnScope ["self"] ["self"] (defScope st)) (loc : (defScope st).names.lookup ("self" : Str) = some NameKind.local) (bind : ∀ (s : Shared) (v : Value), BindsTo s fd ⟨[v], []⟩ [("self", v)]) (room : Room 1 X.A) (I : Inv X pins σ H s)
    (hq : ∀ h' tk t0, (∀ b o, s.heap.get? b = some o → h'.get? b = some o) → h'.get? (s.heap.objs.size + 1) = some (PySem.HandSPX.excO C t0) → s.heap.get? t0 = none → h'.get? t0 = some (PySem.W.kdv_tup []) → Q (.ref (s.heap.objs.size + 1)) { s with heap := h', toks := tk }) :
    wpAny (model X.prog X.w) X.A (call (.ref C) []) Q E s := by
  obtain ⟨B, newId, initId, bmB, nm, q, N, bs, bm, sn, sub, ab, col, dd, k0, k1, k2, k3, k5, FB, ch, atC⟩ := T.new
  have lim := I.nolimit
  have inK := I.kIn
  obtain ⟨hp, g, dr, tk, os⟩ := s
  have grown : ∀ b o, hp.get? b = some o → ((hp.push (PySem.W.kdv_tup [])).push (PySem.HandSPX.excO C hp.objs.size)).get? b = some o :=
    fun b o z => Heap.get?_push_of_some _ (Heap.get?_push_of_some _ z)
  have made : ((hp.push (PySem.W.kdv_tup [])).push (PySem.HandSPX.excO C hp.objs.size)).get? (hp.objs.size + 1) = some (PySem.HandSPX.excO C hp.objs.size) := by heap_get
  have made2 : ((hp.push (PySem.W.kdv_tup [])).push (PySem.HandSPX.excO C hp.objs.size)).get? hp.objs.size = some (PySem.W.kdv_tup []) := by heap_get
  apply wpAny_call
  refine PySem.WbE.callE (iv := .ref fI) FB ch (inK _ _ atC) (PySem.W.looks_findIn inK iC) (fun self => PySem.W.bind_fn inK self tI) (by rw [sizeLine_eq]; simp) ?_
  refine idle (s := ⟨(hp.push (PySem.W.kdv_tup [])).push (PySem.HandSPX.excO C hp.objs.size), g, dr, tk, os⟩) (inK.keeps grown) (lim.keeps grown) F body S loc (bind _ _) ?_ ?_
  · have := (room.make C [] [] (k := 0)).depth
    exact this
  · intro h' tk' kept
    exact ⟨rfl, hq h' tk' hp.objs.size (fun b o z => kept b o (grown b o z)) (kept _ _ made) (Heap.get?_none_of_le (Nat.le_refl _)) (kept _ _ made2)⟩

theorem pe_err0 {qual : Str} {st : Stmt} {pp : Pos} (T : ErrC X.K C) (iC : PySem.W.findIn X.K (.ref C) "__init__" = some (some (.ref fI))) (tI : PySem.W.typeIn X.K (.ref fI) = some (.type "function"))
    (F : Fun X.K "__init__" qual st fI fd) (body : defBody st = [.Pass pp]) (S : FnScope ["self"] ["self"] (defScope st)) (loc : (defScope st).names.lookup ("self" : Str) = some NameKind.local) (bind : ∀ (s : Shared) (v : Value), BindsTo s fd ⟨[v], []⟩ [("self", v)]) (room : Room 1 X.A)
    (hg : Gl X x) (hm : X.mg x = some (.ref C)) (hdb : (x == ("__debug__" : Str)) = false := by decide) : PE X (.Call (.Name x p) [] [] pos) (tErr0 C) := by
  constructor
  intro pins s σ H Q I h
  apply wpAny_Call_Name_kw
  apply ld_glob I hg hm _ hdb
  refine PySem.W.callWith_K0 I.kIn T.kp ?_
  refine run0 T iC tI F body S loc bind room I ?_
  intro h' tk t0 kept made _ _
  exact ⟨.ref _, _, I.laid (t' := tk) kept (Nat.le_succ _) (exo_ok made), rfl, h _ (I.hok.fresh (Nat.le_succ _))⟩

theorem pmk_err0 {qual : Str} {st : Stmt} {pp : Pos} (T : ErrC X.K C) (iC : PySem.W.findIn X.K (.ref C) "__init__" = some (some (.ref fI))) (tI : PySem.W.typeIn X.K (.ref fI) = some (.type "function"))
    (F : Fun X.K "__init__" qual st fI fd) (body : defBody st = [.Pass pp]) (S : FnScope ["self"] ["self"] (defScope st)) (loc : (defScope st).names.lookup ("self" : Str) = some NameKind.local) (bind : ∀ (s : Shared) (v : Value), BindsTo s fd ⟨[v], []⟩ [("self", v)]) (room : Room 1 X.A)
    (hg : Gl X x) (hm : X.mg x = some (.ref C)) (hdb : (x == ("__debug__" : Str)) = false := by decide) : PMk X (.Call (.Name x p) [] [] pos) (tErrX0 C) := by
  intro pins s σ H Q I h
  apply wpAny_Call_Name_kw
  apply ld_glob I hg hm _ hdb
  refine PySem.W.callWith_K0 I.kIn T.kp ?_
  refine run0 T iC tI F body S loc bind room I ?_
  intro h' tk t0 kept made fr madeT
  have mexc : Heap.MadeExcOf s.heap h' (s.heap.objs.size + 1) (.ref C) [] := ⟨kept, Heap.get?_none_of_le (Nat.le_succ _), t0, made, fr, madeT⟩
  have J : Inv X pins σ H { s with toks := tk } := I.tok tk
  exact mk_of (s := { s with toks := tk }) J mexc (raises_own T.exc T.ty) h (I.hok.fresh (Nat.le_succ _))

/-- a class without own __init__: C() -/
theorem pe_errB {B newId initId : String} {bmB : List Value} (T : ErrC X.K C) (FB : PySem.ExcBaseFacts B newId initId bmB) (iC : PySem.W.findIn X.K (.ref C) "__init__" = some (some (.builtin initId)))
    (new : ∃ (nm q : Str) (N : Addr) (bs bm : List Value) (sn : List Str) (sub : List Value) (ab : Bool) (col : Option Bool) (dd : Option Addr) (k0 k1 k2 k3 k5 : Option Value),
      X.K.lookup C = some (excClassObj nm q C N bs bm true sn sub ab col dd k0 k1 k2 k3 k5 newId) ∧ PySem.WbE.Chain bm B ∧ ∀ X : String, bm.contains (.type X) = bmB.contains (.type X))
    (hg : Gl X x) (hm : X.mg x = some (.ref C)) (hdb : (x == ("__debug__" : Str)) = false := by decide) : PE X (.Call (.Name x p) [] [] pos) (tErr0 C) := by
  obtain ⟨nm, q, N, bs, bm, sn, sub, ab, col, dd, k0, k1, k2, k3, k5, atC, ch, hT⟩ := new
  constructor
  intro pins s σ H Q I h
  apply wpAny_Call_Name_kw
  apply ld_glob I hg hm _ hdb
  refine PySem.W.callWith_K0 I.kIn T.kp ?_
  show wpAny _ _ (call (.ref C) []) _ _ _
  have inK := I.kIn
  have fr := I.hok.fresh (a := s.heap.objs.size + 1) (Nat.le_succ _)
  obtain ⟨hp, g, dr, tk, os⟩ := s
  have grown : ∀ b o, hp.get? b = some o → ((hp.push (PySem.W.kdv_tup [])).push (PySem.HandSPX.excO C hp.objs.size)).get? b = some o :=
    fun b o z => Heap.get?_push_of_some _ (Heap.get?_push_of_some _ z)
  have made : ((hp.push (PySem.W.kdv_tup [])).push (PySem.HandSPX.excO C hp.objs.size)).get? (hp.objs.size + 1) = some (PySem.HandSPX.excO C hp.objs.size) := by heap_get
  apply wpAny_call
  refine PySem.WbE.callE (iv := .builtin initId) FB ch (inK _ _ atC) (PySem.W.looks_findIn inK iC) (fun self => ?_) (by rw [sizeLine_eq]; simp) ?_
  · rw [FB.init.bind self]
    exact .now
  · refine PySem.HandSPX.init_base FB hT (grown _ _ (inK _ _ atC)) made (by rw [sizeLine_eq]; simp) ?_
    intro h' t1 kept now
    have old : ∀ b o, hp.get? b = some o → h'.get? b = some o := fun b o z => kept b o (Nat.ne_of_lt (Nat.lt_succ_of_lt (Heap.lt_size z))) (grown b o z)
    exact ⟨rfl, .ref _, _, I.laid (t' := tk) old (Nat.le_succ _) (exo_ok now), rfl, h _ fr⟩
end
end Wb

set_option Elab.async false
set_option linter.all false
set_option maxRecDepth 100000
set_option maxHeartbeats 4000000
/-! Wb6: the deal that a law draws from: what is known of it, and what is kept beside it. -/
namespace Wb
open PySem PySem.Spec PyProof.Rows L2

/-- the heap without the deal's two lists -/
def off (H : Hp) (d c : Addr) : Hp := fun b => if b = d ∨ b = c then none else H b
theorem off_at {H : Hp} {d c b : Addr} (h1 : b ≠ d) (h2 : b ≠ c) : off H d c b = H b := if_neg (fun z => z.elim h1 h2)
theorem off_some {H : Hp} {d c b : Addr} {o : HO} (h : off H d c b = some o) : H b = some o ∧ b ≠ d ∧ b ≠ c := by
  unfold off at h
  by_cases e : b = d ∨ b = c
  · rw [if_pos e] at h
    cases h
  · rw [if_neg e] at h
    exact ⟨h, fun z => e (.inl z), fun z => e (.inr z)⟩
theorem off_le (H : Hp) (d c : Addr) : Same (off H d c) H := fun b o h => (off_some h).1
theorem off_mono {H H' : Hp} {d c : Addr} (h : Same H H') : Same (off H d c) (off H' d c) := by
  intro b o z
  obtain ⟨z1, z2, z3⟩ := off_some z
  rw [off_at z2 z3]
  exact h b o z1
theorem off_none {H : Hp} {d c b : Addr} (h : H b = none) : off H d c b = none := by
  unfold off
  split
  · rfl
  · exact h
/-- a new object is kept -/
theorem new_same {H : Hp} {p : Addr} {o : HO} (h : H p = none) : Same H (upd H p o) := fun b u z => by
  rw [upd_ne (ne_of_none z h)]
  exact z
theorem off_new {H : Hp} {d c p : Addr} {o : HO} (h1 : p ≠ d) (h2 : p ≠ c) : off (upd H p o) d c p = some o := by
  rw [off_at h1 h2]
  exact upd_same

/-- the deal: a list at d of the cells' list at c, and a number -/
structure Deal (H : Hp) (d c : Addr) : Prop where
  ex : ∃ (cs : List Int) (mix : Int), H d = some (.lst [.ref c, .int mix]) ∧ H c = some (.lst (cs.map V.int)) ∧ cs.length ≤ 63 ∧ (∀ z ∈ cs, 0 ≤ z) ∧ 0 ≤ mix ∧ mix < 2147483647
theorem Deal.ne {H : Hp} {d c : Addr} (D : Deal H d c) : d ≠ c := by
  obtain ⟨cs, mix, h1, h2, _⟩ := D.ex
  refine ne_of h1 h2 fun z => ?_
  have z2 : [V.ref c, V.int mix] = cs.map V.int := HO.lst.inj z
  cases cs with
  | nil => cases z2
  | cons a r => cases z2
theorem Deal.same {H H' : Hp} {d c : Addr} (D : Deal H d c) (s : Same H H') : Deal H' d c := by
  obtain ⟨cs, mix, h1, h2, h3⟩ := D.ex
  exact ⟨cs, mix, s _ _ h1, s _ _ h2, h3⟩
/-- a free address is none of the deal's -/
theorem Deal.free {H : Hp} {d c p : Addr} (D : Deal H d c) (h : H p = none) : p ≠ d ∧ p ≠ c := by
  obtain ⟨cs, mix, h1, h2, h3⟩ := D.ex
  exact ⟨(ne_of_none h1 h).symm, (ne_of_none h2 h).symm⟩
/-- the deal's own lists changed: all else is kept -/
theorem off_dc {H : Hp} {d c : Addr} {o u : HO} : off (upd (upd H c o) d u) d c = off H d c := by
  funext b
  unfold off
  by_cases e : b = d ∨ b = c
  · rw [if_pos e, if_pos e]
  · rw [if_neg e, if_neg e, upd_ne (fun z => e (.inl z)), upd_ne (fun z => e (.inr z))]
theorem off_c {H : Hp} {d c : Addr} {o : HO} : off (upd H c o) d c = off H d c := by
  funext b
  unfold off
  by_cases e : b = d ∨ b = c
  · rw [if_pos e, if_pos e]
  · rw [if_neg e, if_neg e, upd_ne (fun z => e (.inr z))]
theorem off_d {H : Hp} {d c : Addr} {o : HO} : off (upd H d o) d c = off H d c := by
  funext b
  unfold off
  by_cases e : b = d ∨ b = c
  · rw [if_pos e, if_pos e]
  · rw [if_neg e, if_neg e, upd_ne (fun z => e (.inl z))]

theorem seqT {K : PySem.W.Frag} {H H' : Hp} {a : Addr} {xs : List V} (e : Same H H') (h : SqT K H a xs) : SqT K H' a xs := by
  rcases h with (h | ⟨o, h⟩) | h
  · exact Or.inl (Or.inl (e _ _ h))
  · exact Or.inl (Or.inr ⟨o, e _ _ h⟩)
  · exact Or.inr h
/-- an item at a place drawn -/
theorem item_at {xs : List V} {r : Int} (h0 : 0 ≤ r) (h1 : r < (xs.length : Int)) : ∃ v, v ∈ xs ∧ atI xs r = some v := by
  obtain ⟨j, rfl⟩ := Int.eq_ofNat_of_zero_le h0
  have hj : j < xs.length := by omega
  exact ⟨xs[j], List.getElem_mem hj, atI_nat (List.getElem?_eq_getElem hj)⟩
theorem nil_or_last {α : Type} (l : List α) : l = [] ∨ ∃ ini z, l = ini ++ [z] := by
  cases l with
  | nil => exact .inl rfl
  | cons a r => exact .inr ⟨(a :: r).dropLast, (a :: r).getLast (by simp), (List.dropLast_concat_getLast (by simp)).symm⟩
/-- one statement and the rest, what is known between them said apart -/
theorem seqI {t1 t2 : TS} {D : Ends} {σ : L2.St} {H : Hp} (Ex : L2.St → Hp → Prop) (rest : ∀ σ' H', Ex σ' H' → t2 D σ' H')
    (first : ∀ Z : L2.St → Hp → Prop, (∀ σ' H', Ex σ' H' → Z σ' H') → t1 { D with nx := Z } σ H) : tSeq t1 t2 D σ H :=
  first _ rest
/-- a while by an invariant, a measure, and what is known at its end; what follows is asked apart -/
theorem whileI {c : TT} {tb : TS} {D : Ends} {σ : L2.St} {H : Hp} (I Ex : L2.St → Hp → Prop) (m : L2.St → Hp → Nat) (h0 : I σ H) (rest : ∀ σ H, Ex σ H → D.nx σ H)
    (step : ∀ σ H, I σ H → ∀ Y Z : Hp → Prop,
      (∀ H1, tb { D with nx := fun σ' H' => I σ' H' ∧ m σ' H' < m σ H, ct := fun σ' H' => I σ' H' ∧ m σ' H' < m σ H, bk := D.nx } σ H1 → Y H1) → (∀ H1, Ex σ H1 → Z H1) →
      c σ H fun b H1 => if b = true then Y H1 else Z H1) : tWhile c tb D σ H := by
  refine ⟨fun k σ H => k = m σ H ∧ I σ H, ⟨_, rfl, h0⟩, ?_⟩
  rintro k σ H ⟨rfl, hI⟩
  refine step σ H hI _ _ (fun H1 q => ?_) (fun H1 e => rest σ H1 e)
  exact ⟨_, fun σ' H' ⟨p', l⟩ => ⟨_, l, rfl, p'⟩, q⟩

/-- _law_any(deal, bound): some number below the bound; the deal is one again, all else is kept -/
def spAny : Sp := fun vs H Q _ => ∃ (d c : Addr) (bound : Int), vs = [.ref d, .int bound] ∧ Deal H d c ∧ 0 < bound ∧ bound < 2 ^ 300 ∧
  ∀ (r : Int) (H' : Hp), 0 ≤ r → r < bound → Deal H' d c → Same (off H d c) (off H' d c) → Q (.int r) H'
/-- _law_of(deal, some): some item of a list, of a tuple, or a sign of a text -/
def spOf (K : PySem.W.Frag) : Sp := fun vs H Q _ => ∃ (d c : Addr) (x : V), vs = [.ref d, x] ∧ Deal H d c ∧
  ((∃ (p : Addr) (xs : List V), x = .ref p ∧ SqL K (off H d c) p xs ∧ xs ≠ [] ∧ xs.length ≤ 1000 ∧ ∀ (v : V) (H' : Hp), v ∈ xs → Deal H' d c → Same (off H d c) (off H' d c) → Q v H') ∨
   (∃ (p : Addr) (xs : List V), x = .ref p ∧ SqT K (off H d c) p xs ∧ xs ≠ [] ∧ xs.length ≤ 1000 ∧ ∀ (v : V) (H' : Hp), v ∈ xs → Deal H' d c → Same (off H d c) (off H' d c) → Q v H') ∨
   (∃ z : Str, x = .str z ∧ 0 < z.length ∧ z.length ≤ 1000 ∧ ∀ (a : Nat) (H' : Hp), a ∈ z.cps.toList → Deal H' d c → Same (off H d c) (off H' d c) → Q (.str ⟨#[a]⟩) H'))
/-- _law_deal(script, base): a new deal -/
def spDeal (K : PySem.W.Frag) : Sp := fun vs H Q _ => ∃ (a : Addr) (ns : List Int) (b : Int), vs = [.ref a, .int b] ∧ SqL K H a (ns.map V.int) ∧ ns.length ≤ 63 ∧ 0 ≤ b ∧ b ≤ 1000 ∧
  ∀ (d c : Addr) (H' : Hp), H d = none → H c = none → Deal H' d c → Same H H' → Q (.ref d) H'
end Wb

set_option Elab.async false
set_option linter.all false
set_option maxRecDepth 100000
set_option maxHeartbeats 4000000
/-! Wb7: data that is all new; how large it is shown. -/
namespace Wb
open PySem PySem.Spec PyProof.Rows L2

/-- what stands in H' and was free in H -/
def nw (H H' : Hp) : Hp := fun b => if H b = none then H' b else none
theorem nw_at {H H' : Hp} {b : Addr} (h : H b = none) : nw H H' b = H' b := if_pos h
theorem nw_some {H H' : Hp} {b : Addr} {o : HO} (h : nw H H' b = some o) : H b = none ∧ H' b = some o := by
  unfold nw at h
  by_cases e : H b = none
  · rw [if_pos e] at h
    exact ⟨e, h⟩
  · rw [if_neg e] at h
    cases h
theorem nw_le (H H' : Hp) : Same (nw H H') H' := fun b o h => (nw_some h).2
/-- every address that is taken stays taken -/
def Dom (H H' : Hp) : Prop := ∀ b, H' b = none → H b = none
theorem Dom.refl (H : Hp) : Dom H H := fun _ h => h
theorem Dom.trans {H G J : Hp} (a : Dom H G) (b : Dom G J) : Dom H J := fun x h => a x (b x h)
theorem Dom.of {H H' : Hp} (s : Same H H') : Dom H H' := fun b h => s.free h
theorem Dom.deal {H H' : Hp} {d c : Addr} (s : Same (off H d c) (off H' d c)) (D : Deal H' d c) : Dom H H' := by
  intro b h
  obtain ⟨n1, n2⟩ := D.free h
  have q : off H' d c b = none := (off_at n1 n2).trans h
  have z := s.free q
  rwa [off_at n1 n2] at z
/-- new since later is new since earlier; and it is kept where all but the deal is -/
theorem nw_mono {H0 H G G' : Hp} {d c : Addr} (a : Dom H0 H) (D : Deal H d c) (s : Same (off G d c) (off G' d c)) : Same (nw H G) (nw H0 G') := by
  intro b o h
  obtain ⟨h1, h2⟩ := nw_some h
  obtain ⟨n1, n2⟩ := D.free h1
  rw [nw_at (a b h1)]
  have q := s b o (by rw [off_at n1 n2]; exact h2)
  exact (off_some q).1
theorem nw_off {H G : Hp} {d c : Addr} (D : Deal H d c) : Same (nw H G) (off G d c) := by
  intro b o h
  obtain ⟨h1, h2⟩ := nw_some h
  obtain ⟨n1, n2⟩ := D.free h1
  rw [off_at n1 n2]
  exact h2
theorem nw_upd {H G : Hp} {p : Addr} {o : HO} (h : H p ≠ none) : nw H (upd G p o) = nw H G := by
  funext b
  unfold nw
  by_cases e : H b = none
  · rw [if_pos e, if_pos e, upd_ne (fun z => h (by rw [← z]; exact e))]
  · rw [if_neg e, if_neg e]

mutual
theorem dpMono {K : PySem.W.Frag} {H H' : Hp} (s : Same H H') : ∀ (d : PyData) (v : V), Dp K H v d → Dp K H' v d
  | .none, _, h => by
    cases h
    exact .non
  | .bool b, _, h => by
    cases h
    exact .bl b
  | .int i, _, h => by
    cases h
    exact .int i
  | .str x, _, h => by
    cases h
    exact .str x
  | .list ds, _, h => by
    cases h with
    | lst h1 h2 => exact .lst (s.seq h1) (dpMonoAll s ds _ h2)
  | .tuple ds, _, h => by
    cases h with
    | tup h1 h2 => exact .tup (seqT s h1) (dpMonoAll s ds _ h2)
  | .dict _, _, h => by cases h
theorem dpMonoAll {K : PySem.W.Frag} {H H' : Hp} (s : Same H H') : ∀ (ds : List PyData) (vs : List V), DpAll K H vs ds → DpAll K H' vs ds
  | [], _, h => by
    cases h
    exact .nil
  | d :: ds, _, h => by
    cases h with
    | cons h1 h2 => exact .cons (dpMono s d _ h1) (dpMonoAll s ds _ h2)
end
theorem dpAll_snoc {K : PySem.W.Frag} {H : Hp} {v : V} {e : PyData} (h : Dp K H v e) : ∀ {vs : List V} {es : List PyData}, DpAll K H vs es → DpAll K H (vs ++ [v]) (es ++ [e])
  | _, _, .nil => .cons h .nil
  | _, _, .cons h1 h2 => .cons h1 (dpAll_snoc h h2)
theorem dpAll_len {K : PySem.W.Frag} {H : Hp} : ∀ {vs : List V} {es : List PyData}, DpAll K H vs es → vs.length = es.length
  | _, _, .nil => rfl
  | _, _, .cons _ h2 => by simp [dpAll_len h2]
theorem dpAll_mem {K : PySem.W.Frag} {H : Hp} : ∀ {vs : List V} {es : List PyData} {v : V}, DpAll K H vs es → v ∈ vs → ∃ e, e ∈ es ∧ Dp K H v e
  | _, _, _, .nil, h => nomatch h
  | _, _, v, .cons h1 h2, h => by
    rcases List.mem_cons.mp h with rfl | h
    · exact ⟨_, List.mem_cons_self, h1⟩
    · obtain ⟨e, q1, q2⟩ := dpAll_mem h2 h
      exact ⟨e, List.mem_cons_of_mem _ q1, q2⟩

/-- what may be shown: n deep, of a weight W -/
structure Tame (n W : Nat) (e : PyData) : Prop where
  shows : e.showable = true
  noDict : e.hasDict = false
  deep : e.depth ≤ n
  short : e.leavesShort 13 = true
  light : e.weight ≤ W
theorem Tame.fits {n W : Nat} {e : PyData} (t : Tame n W e) (h : W ≤ 1000000) : e.shown.length ≤ sizeLine := by
  have q := PyData.shown_le 13 (by decide) e t.short
  have l := t.light
  rw [sizeLine_eq]
  omega
theorem Tame.more {n m W Z : Nat} {e : PyData} (t : Tame n W e) (h1 : n ≤ m) (h2 : W ≤ Z) : Tame m Z e :=
  ⟨t.shows, t.noDict, Nat.le_trans t.deep h1, t.short, Nat.le_trans t.light h2⟩
structure TameAll (n W : Nat) (es : List PyData) : Prop where
  shows : PyData.showableAll es = true
  noDict : PyData.hasDictAll es = false
  deep : PyData.depthAll es ≤ n
  short : PyData.leavesShortAll 13 es = true
  light : PyData.weightAll es ≤ es.length * (W + 1)
theorem TameAll.nil {n W : Nat} : TameAll n W [] := ⟨by simp [PyData.showableAll], by simp [PyData.hasDictAll], by simp [PyData.depthAll], by simp [PyData.leavesShortAll], by simp [PyData.weightAll]⟩
theorem TameAll.cons {n W : Nat} {e : PyData} {es : List PyData} (t : Tame n W e) (h : TameAll n W es) : TameAll n W (e :: es) := by
  obtain ⟨a1, a2, a3, a4, a5⟩ := t
  obtain ⟨b1, b2, b3, b4, b5⟩ := h
  refine ⟨by simp [PyData.showableAll, a1, b1], by simp [PyData.hasDictAll, a2, b2], ?_, by simp [PyData.leavesShortAll, a4, b4], ?_⟩
  · simp only [PyData.depthAll]
    exact Nat.max_le.mpr ⟨a3, b3⟩
  · simp only [PyData.weightAll, List.length_cons, Nat.succ_mul]
    omega
theorem TameAll.of {n W : Nat} : ∀ {es : List PyData}, (∀ e ∈ es, Tame n W e) → TameAll n W es
  | [], _ => .nil
  | e :: es, h => .cons (h e List.mem_cons_self) (TameAll.of fun x hx => h x (List.mem_cons_of_mem _ hx))
theorem TameAll.list {n W k : Nat} {es : List PyData} (h : TameAll n W es) (few : es.length ≤ k) : Tame (n + 1) (k * (W + 1)) (.list es) := by
  obtain ⟨b1, b2, b3, b4, b5⟩ := h
  refine ⟨by simpa [PyData.showable] using b1, by simpa [PyData.hasDict] using b2, ?_, by simpa [PyData.leavesShort] using b4, ?_⟩
  · simp only [PyData.depth]
    omega
  · simp only [PyData.weight]
    exact Nat.le_trans b5 (Nat.mul_le_mul_right _ few)
theorem TameAll.tuple {n W k : Nat} {es : List PyData} (h : TameAll n W es) (few : es.length ≤ k) : Tame (n + 1) (k * (W + 1)) (.tuple es) := by
  obtain ⟨b1, b2, b3, b4, b5⟩ := h
  refine ⟨by simpa [PyData.showable] using b1, by simpa [PyData.hasDict] using b2, ?_, by simpa [PyData.leavesShort] using b4, ?_⟩
  · simp only [PyData.depth]
    omega
  · simp only [PyData.weight]
    exact Nat.le_trans b5 (Nat.mul_le_mul_right _ few)
theorem tame_none : Tame 0 40 .none := ⟨by decide +kernel, by decide +kernel, by decide +kernel, by decide +kernel, by decide +kernel⟩
theorem tame_bool (b : Bool) : Tame 0 40 (.bool b) := by cases b <;> exact ⟨by decide +kernel, by decide +kernel, by decide +kernel, by decide +kernel, by decide +kernel⟩
theorem log2_small {i : Int} (h : i.natAbs < 10 ^ 12) : i.natAbs.log2 ≤ 39 := by
  by_cases z : i.natAbs = 0
  · rw [z]
    decide
  · have := (Nat.log2_lt z (k := 40)).mpr (Nat.lt_trans h (by decide))
    omega
theorem tame_int {i : Int} (h : i.natAbs < 10 ^ 12) : Tame 0 40 (.int i) := by
  have l := log2_small h
  refine ⟨?_, by simp [PyData.hasDict], by simp [PyData.depth], ?_, ?_⟩
  · simp only [PyData.showable, decide_eq_true_eq]
    omega
  · simp only [PyData.leavesShort, decide_eq_true_eq]
    exact PyData.shown_int_le h
  · simp only [PyData.weight]
    split <;> omega
theorem tame_str {x : Str} (h : ∀ a ∈ x.cps.toList, a < 16 ^ 8) (few : x.length ≤ 40) : Tame 0 40 (.str x) := by
  refine ⟨by simp [PyData.showable], by simp [PyData.hasDict], by simp [PyData.depth], ?_, ?_⟩
  · simp only [PyData.leavesShort, List.all_eq_true, decide_eq_true_eq]
    exact h
  · simp only [PyData.weight]
    exact few

/-- signs glued -/
theorem glued (L : List Nat) : ∀ ys : List Str, (∀ y ∈ ys, ∃ a ∈ L, y = ⟨#[a]⟩) → (Str.join (Str.ofString "") ys).length = ys.length ∧ ∀ a ∈ (Str.join (Str.ofString "") ys).cps.toList, a ∈ L
  | [], _ => ⟨by decide, fun a ha => by
    have e : (Str.join (Str.ofString "") []).cps.toList = [] := by decide
    rw [e] at ha
    cases ha⟩
  | [y], h => by
    obtain ⟨a, ha, rfl⟩ := h y List.mem_cons_self
    refine ⟨rfl, fun b hb => ?_⟩
    have hb' : b ∈ [a] := hb
    rw [List.mem_singleton.mp hb']
    exact ha
  | y :: z :: r, h => by
    obtain ⟨a, ha, rfl⟩ := h y List.mem_cons_self
    obtain ⟨i1, i2⟩ := glued L (z :: r) fun x hx => h x (List.mem_cons_of_mem _ hx)
    have e : Str.join (Str.ofString "") (⟨#[a]⟩ :: z :: r) = (⟨#[a]⟩ ++ Str.ofString "") ++ Str.join (Str.ofString "") (z :: r) := rfl
    rw [e]
    refine ⟨?_, fun b hb => ?_⟩
    · rw [strLen_append, strLen_append, i1]
      have e1 : (Str.ofString "").length = 0 := by decide
      have e2 : (⟨#[a]⟩ : Str).length = 1 := rfl
      rw [e1, e2]
      simp
      omega
    · rw [cps_toList_append, cps_toList_append] at hb
      have e1 : (Str.ofString "").cps.toList = [] := by decide
      rw [e1, List.append_nil] at hb
      rcases List.mem_append.mp hb with q | q
      · have q' : b ∈ [a] := q
        rw [List.mem_singleton.mp q']
        exact ha
      · exact i2 b q
end Wb

namespace Wf
/-- how a top and a bottom are brought down -/
theorem frac_val (t b : Int) (hb : b ≠ 0) : ∀ c : Int, c = (if b < 0 then -((Nat.gcd t.natAbs b.natAbs : Nat) : Int) else ((Nat.gcd t.natAbs b.natAbs : Nat) : Int)) →
    c ≠ 0 ∧ t.fdiv c = (Rat.divInt t b).num ∧ b.fdiv c = ((Rat.divInt t b).den : Int) := by
  intro c hc
  have gp : 0 < Nat.gcd t.natAbs b.natAbs := Nat.gcd_pos_of_pos_right _ (Int.natAbs_pos.mpr hb)
  generalize hg : Nat.gcd t.natAbs b.natAbs = g at *
  have dt : (g : Int) ∣ t := Int.natAbs_dvd_natAbs.mp (by rw [Int.natAbs_natCast, ← hg]; exact Nat.gcd_dvd_left _ _)
  have db : (g : Int) ∣ b := Int.natAbs_dvd_natAbs.mp (by rw [Int.natAbs_natCast, ← hg]; exact Nat.gcd_dvd_right _ _)
  have e1 : (Rat.divInt t b).num = b.sign * t / g := by
    rw [Rat.num_divInt]
    have : b.gcd t = g := by rw [← hg, Nat.gcd_comm]; rfl
    rw [this]
  have e2 : ((Rat.divInt t b).den : Int) = (b.natAbs : Int) / (g : Int) := by
    rw [Rat.den_divInt, if_neg hb]
    have : b.gcd t = g := by rw [← hg, Nat.gcd_comm]; rfl
    rw [this, Int.natCast_ediv]
  obtain ⟨x, rfl⟩ := dt
  obtain ⟨y, rfl⟩ := db
  have g0 : (g : Int) ≠ 0 := by omega
  rw [e1, e2]
  by_cases neg : (g : Int) * y < 0
  · rw [if_pos neg] at hc
    subst hc
    have s : ((g : Int) * y).sign = -1 := Int.sign_eq_neg_one_of_neg neg
    have n : (((g : Int) * y).natAbs : Int) = (g : Int) * -y := by
      have := Int.ofNat_natAbs_of_nonpos (Int.le_of_lt neg)
      rw [this, Int.mul_neg]
    refine ⟨by omega, ?_, ?_⟩
    · rw [s]
      have : -1 * ((g : Int) * x) = (g : Int) * -x := by rw [Int.mul_neg]; omega
      rw [this, Int.mul_ediv_cancel_left _ g0]
      exact Int.fdiv_eq_of_eq_mul_right (by omega) (by rw [Int.neg_mul_neg])
    · rw [n, Int.mul_ediv_cancel_left _ g0]
      exact Int.fdiv_eq_of_eq_mul_right (by omega) (by rw [Int.neg_mul_neg])
  · rw [if_neg neg] at hc
    subst hc
    have pos : 0 < (g : Int) * y := by omega
    have s : ((g : Int) * y).sign = 1 := Int.sign_eq_one_of_pos pos
    have n : (((g : Int) * y).natAbs : Int) = (g : Int) * y := Int.natAbs_of_nonneg (Int.le_of_lt pos)
    refine ⟨g0, ?_, ?_⟩
    · rw [s, Int.one_mul, Int.mul_ediv_cancel_left _ g0]
      exact Int.fdiv_eq_of_eq_mul_right g0 rfl
    · rw [n, Int.mul_ediv_cancel_left _ g0]
      exact Int.fdiv_eq_of_eq_mul_right g0 rfl
/-- the same for a bottom above 0, by the other division -/
theorem low_val (t b : Int) (hb : 0 < b) : t / ((Nat.gcd t.natAbs b.natAbs : Nat) : Int) = (Rat.divInt t b).num ∧ b / ((Nat.gcd t.natAbs b.natAbs : Nat) : Int) = ((Rat.divInt t b).den : Int) := by
  obtain ⟨_, h1, h2⟩ := frac_val t b (by omega) _ (if_neg (by omega)).symm
  rw [Int.fdiv_eq_ediv_of_nonneg _ (Int.natCast_nonneg _)] at h1 h2
  exact ⟨h1, h2⟩
theorem add_val (p q : Rat) : Rat.divInt (p.num * q.den + q.num * p.den) (p.den * q.den) = p + q := by
  rw [Rat.add_def', ← Rat.divInt_ofNat, Int.natCast_mul]
theorem sub_val (p q : Rat) : Rat.divInt (p.num * q.den - q.num * p.den) (p.den * q.den) = p - q := by
  rw [Rat.sub_def', ← Rat.divInt_ofNat, Int.natCast_mul]
theorem mul_val (p q : Rat) : Rat.divInt (p.num * q.num) (p.den * q.den) = p * q := by
  rw [Rat.mul_def', ← Rat.divInt_ofNat, Int.natCast_mul]
theorem div_val (p q : Rat) : Rat.divInt (p.num * q.den) (p.den * q.num) = p / q := by
  rw [Rat.div_def, Rat.inv_def, ← Rat.divInt_mul_divInt, Rat.num_divInt_den]
theorem neg_divInt (t b : Int) : Rat.divInt (0 - t) (0 - b) = Rat.divInt t b := by
  rw [Int.zero_sub, Int.zero_sub, Rat.neg_divInt_neg]
/-- how long tops and bottoms are -/
structure Sz (k : Nat) (q : Rat) : Prop where
  top : q.num.natAbs < 2 ^ k
  bot : q.den < 2 ^ k
theorem Sz.mono {j k : Nat} {q : Rat} (h : Sz j q) (l : j ≤ k) : Sz k q :=
  ⟨Nat.lt_of_lt_of_le h.top (Nat.pow_le_pow_right (by decide) l), Nat.lt_of_lt_of_le h.bot (Nat.pow_le_pow_right (by decide) l)⟩
theorem sz_divInt {t b : Int} {k : Nat} (hb : b ≠ 0) (h1 : t.natAbs < 2 ^ k) (h2 : b.natAbs < 2 ^ k) : Sz k (Rat.divInt t b) := by
  have gp : 0 < b.gcd t := Int.gcd_pos_of_ne_zero_left _ hb
  constructor
  · rw [Rat.num_divInt]
    have : (b.sign * t / (b.gcd t : Int)).natAbs ≤ (b.sign * t).natAbs := by
      exact Int.natAbs_ediv_le_natAbs _ _
    rw [Int.natAbs_mul, Int.natAbs_sign_of_ne_zero hb, Nat.one_mul] at this
    omega
  · rw [Rat.den_divInt, if_neg hb]
    exact Nat.lt_of_le_of_lt (Nat.div_le_self _ _) h2
theorem lt_mul {a b j k : Nat} (h1 : a < 2 ^ j) (h2 : b < 2 ^ k) : a * b < 2 ^ (j + k) := by
  rw [Nat.pow_add]
  exact Nat.mul_lt_mul'' h1 h2
theorem Sz.add {j k : Nat} {p q : Rat} (h1 : Sz j p) (h2 : Sz k q) : Sz (j + k + 1) (p + q) := by
  rw [← add_val]
  have a := lt_mul h1.top h2.bot
  have b := lt_mul h2.top h1.bot
  have c := lt_mul h1.bot h2.bot
  have e : 2 ^ (j + k + 1) = 2 ^ (j + k) + 2 ^ (j + k) := by rw [Nat.pow_succ]; omega
  rw [Nat.add_comm k j] at b
  have hd : (p.den : Int) * q.den ≠ 0 := by
    have := p.den_pos; have := q.den_pos
    exact Int.mul_ne_zero (by omega) (by omega)
  refine sz_divInt hd ?_ ?_
  · have := Int.natAbs_add_le (p.num * q.den) (q.num * p.den)
    rw [Int.natAbs_mul, Int.natAbs_mul, Int.natAbs_natCast, Int.natAbs_natCast] at this
    omega
  · rw [Int.natAbs_mul, Int.natAbs_natCast, Int.natAbs_natCast]
    omega
theorem Sz.neg {k : Nat} {p : Rat} (h : Sz k p) : Sz k (-p) := ⟨by rw [Rat.neg_num, Int.natAbs_neg]; exact h.top, h.bot⟩
theorem Sz.sub {j k : Nat} {p q : Rat} (h1 : Sz j p) (h2 : Sz k q) : Sz (j + k + 1) (p - q) := by
  rw [Rat.sub_eq_add_neg]
  exact h1.add h2.neg
theorem Sz.mul {j k : Nat} {p q : Rat} (h1 : Sz j p) (h2 : Sz k q) : Sz (j + k) (p * q) := by
  rw [← mul_val]
  have a := lt_mul h1.top h2.top
  have c := lt_mul h1.bot h2.bot
  have hd : (p.den : Int) * q.den ≠ 0 := by
    have := p.den_pos; have := q.den_pos
    exact Int.mul_ne_zero (by omega) (by omega)
  refine sz_divInt hd ?_ ?_
  · rw [Int.natAbs_mul]; exact a
  · rw [Int.natAbs_mul, Int.natAbs_natCast, Int.natAbs_natCast]; exact c
theorem Sz.div {j k : Nat} {p q : Rat} (h1 : Sz j p) (h2 : Sz k q) (h : q ≠ 0) : Sz (j + k) (p / q) := by
  rw [← div_val]
  have a := lt_mul h1.top h2.bot
  have c := lt_mul h1.bot h2.top
  have hd : (p.den : Int) * q.num ≠ 0 := by
    have := p.den_pos
    exact Int.mul_ne_zero (by omega) (fun e => h (Rat.num_eq_zero.mp e))
  refine sz_divInt hd ?_ ?_
  · rw [Int.natAbs_mul, Int.natAbs_natCast]; exact a
  · rw [Int.natAbs_mul, Int.natAbs_natCast]; exact c
/-- 1, 0, -1 -/
def cmpI (x y : Int) : Int := (if x > y then 1 else 0) - (if x < y then 1 else 0)
def cmpR (p q : Rat) : Int := cmpI (p.num * q.den) (q.num * p.den)
theorem cmpR_eq (p q : Rat) : cmpR p q = if q < p then 1 else if p < q then -1 else 0 := by
  unfold cmpR cmpI
  have h1 : (q < p) ↔ p.num * q.den > q.num * p.den := Rat.lt_iff q p
  have h2 : (p < q) ↔ p.num * q.den < q.num * p.den := Rat.lt_iff p q
  by_cases a : q < p
  · have b := h1.mp a
    rw [if_pos a, if_pos b, if_neg (by omega)]
    rfl
  · have b := fun z => a (h1.mpr z)
    rw [if_neg a, if_neg b]
    by_cases c : p < q
    · rw [if_pos c, if_pos (h2.mp c)]; rfl
    · rw [if_neg c, if_neg fun z => c (h2.mpr z)]; rfl
theorem cmp_add (p q r : Rat) : cmpR (p + r) (q + r) = cmpR p q := by
  rw [cmpR_eq, cmpR_eq]
  have h : ∀ x y : Rat, x + r < y + r ↔ x < y := fun x y => by
    constructor <;> intro z <;> grind
  simp only [h]
theorem cmp_sign (r : Rat) : cmpR r 0 = if 0 < r then 1 else if r < 0 then -1 else 0 := cmpR_eq r 0
theorem cmp_mul (p q r : Rat) : cmpR (p * r) (q * r) = cmpR p q * cmpR r 0 := by
  have key : ∀ x y : Rat, 0 < r → (x * r < y * r ↔ x < y) := fun x y h => ⟨fun z => by
    by_cases c : x < y
    · exact c
    · have : 0 ≤ (x - y) * r := Rat.mul_nonneg (by grind) (by grind)
      grind, fun z => by
    have : 0 < (y - x) * r := Rat.mul_pos (by grind) h
    grind⟩
  have key2 : ∀ x y : Rat, r < 0 → (x * r < y * r ↔ y < x) := fun x y h => ⟨fun z => by
    by_cases c : y < x
    · exact c
    · have : 0 ≤ (y - x) * -r := Rat.mul_nonneg (by grind) (by grind)
      grind, fun z => by
    have : 0 < (x - y) * -r := Rat.mul_pos (by grind) (by grind)
    grind⟩
  rw [cmpR_eq, cmpR_eq, cmp_sign]
  by_cases a : 0 < r
  · simp only [key _ _ a, if_pos a, Int.mul_one]
  · by_cases b : r < 0
    · simp only [key2 _ _ b, if_pos b, if_neg a]
      by_cases c : p < q
      · have : ¬ q < p := by grind
        simp [c, this]
      · by_cases d : q < p
        · simp [c, d]
        · simp [c, d]
    · have : r = 0 := by grind
      subst this
      simp
end Wf

set_option Elab.async false
set_option linter.all false
set_option maxRecDepth 100000
set_option maxHeartbeats 4000000
/-! Wf1: what fractions take of the language: // below 0, lcm, calls by names alone, a caught error looked at. -/
namespace Wb
open PySem PySem.Spec PyProof.Rows L2
section
variable {X : Cx}
/-- // by a divisor of either sign -/
def CDivS (_ j : Int) : Prop := j ≠ 0 ∧ j.natAbs.log2 < 9000
theorem op_fdivS : OpR X (binaryOp .FloorDiv) (rI CDivS fun i j => .int (i.fdiv j)) := opI fun i j _ _ _ _ _ hc q => floordiv_int hc.1 q (.inl (PyProof.noPylong_of_log2 hc.2))
def rLcm : List V → Hp → VK → Prop := fun vs H Q => ∃ a b : Int, vs = [.int a, .int b] ∧ a.natAbs < 2 ^ 9000 ∧ b.natAbs < 2 ^ 9000 ∧ Q (.int ((Nat.lcm a.natAbs b.natAbs : Nat) : Int)) H
theorem log_le {n k : Nat} (h : n < 2 ^ k) (h0 : 0 < k) : n.log2 < k := by
  by_cases z : n = 0
  · subst z
    rw [Nat.log2_zero]
    exact h0
  · exact (Nat.log2_lt z).mpr h
theorem cr_lcm : CallR X (.builtin "math.lcm") rLcm := by
  intro pins s σ H vs us Q I r h
  obtain ⟨a, b, rfl, ha, hb, q⟩ := h
  obtain ⟨t, u, rfl⟩ := Vals.int2 r
  have one9 : (1 : Nat) < 2 ^ 9000 := Nat.one_lt_two_pow (by decide)
  have h1 : (max 1 a.natAbs).log2 < 9000 := log_le (Nat.max_lt.mpr ⟨one9, ha⟩) (by decide)
  have h2 : (max a.natAbs b.natAbs).log2 < 9000 := log_le (Nat.max_lt.mpr ⟨ha, hb⟩) (by decide)
  have h3 : (Nat.lcm 1 a.natAbs).lcm b.natAbs = Nat.lcm a.natAbs b.natAbs := by rw [PySem.W.mc_lcm_one]
  have h4 : (Nat.lcm a.natAbs b.natAbs).log2 < 18000 := by
    refine log_le (Nat.lt_of_le_of_lt (PySem.W.mc_lcm_le _ _) ?_) (by decide)
    have e : (18000 : Nat) = 9000 + 9000 := rfl
    rw [e, Nat.pow_add]
    exact Nat.mul_lt_mul'' ha hb
  have h5 : ((((Nat.lcm 1 a.natAbs).lcm b.natAbs : Nat) : Int)).natAbs.log2 < bitsLine := by
    rw [h3, Int.natAbs_natCast]
    exact Nat.lt_trans h4 (by decide)
  refine call_function_meets PySem.W.MGF.kind_lcm PySem.W.MGF.plain_lcm PySem.W.MGF.entry_lcm (PySem.W.MGF.args_lcm _ _) (PySem.W.mg_run_lcm a t b u (by omega) (by omega) h5).meets ?_
  rw [h3]
  exact ⟨.int _, H, I.tok _, ⟨_, rfl⟩, q⟩
end
section
variable {X : Cx} {CX : CXT} {k : Nat} {f C : Addr} {fd : FuncData} {ps ks : List Str} {sp : Sp} {E : XK} {x m : Str} {p pos apos kpos : Pos} {e o : Expr} {es : List Expr} {kws : List Keyword} {te ta : TE} {t tk : TA} {nm : Option Str}
variable {g : List Value → List Value → List Value} {gV : List V → List V → List V}
def tCallK0 (sp : Sp) (gV : List V → List V → List V) (E : XK) (tk : TA) : TE := fun σ H Q => tk σ H fun zs H2 => sp (gV [] zs) H2 Q E
/-- f(k = v, ..), nothing by position -/
theorem pe_callK0 (F : FnOk X.prog X.w X.K X.mg X.base CX k f fd ps sp) (hr : Room k X.A) (hg : Gl X x) (hm : X.mg x = some (.ref f)) (hk : PySem.W.keepIn X.K (.ref f) = true) (hb : KBinds X.K fd ps ks g gV) (hx : Passes CX X E)
    (hkw : PK X kws tk) (hall : (backToKw pos (keywordEach kws X.env)).all (·.1.isSome) = true := by rfl) (hks : (backToKw pos (keywordEach kws X.env)).filterMap (·.1) = ks := by rfl)
    (hdb : (x == ("__debug__" : Str)) = false := by decide) (hpl : ((backTo pos (starEach [] X.env)).any (·.1) || (backToKw pos (keywordEach kws X.env)).any (·.1.isNone)) = false := by rfl) :
    PE X (.Call (.Name x p) [] kws pos) (tCallK0 sp gV E tk) := by
  refine ⟨fun pins s σ H Q I h => ?_⟩
  refine wpAny_Call_Name_kw (ld_glob I hg hm ?_ hdb)
  refine PySem.W.callWith_KW0 (h₀ := X.base) I.ok.mod.kin hk hall (thn (hkw.run pos pins s σ H _ I h) fun ws s2 ⟨zs, H2, I2, rz, q2⟩ => ⟨I2.kIn, ?_⟩) hpl
  rw [hks]
  exact run_fnk (us := []) (vs := []) F hr hb hx I2 .nil rz q2
end
/-- a def that may raise, where it doesn't -/
theorem quiet {P : Program} {w : World} {K : PySem.W.Frag} {mg : Str → Option Value} {base : Heap} {k : Nat} {f : Addr} {fd : FuncData} {ps : List Str} {sp : Sp} (F : FnOk P w K mg base (L2.CX P w) k f fd ps sp) :
    FnOk P w K mg base CX0 k f fd ps (fun vs H Q _ => sp vs H Q (fun _ _ _ => False)) :=
  ⟨fun vs H Q E h => F.len vs H Q _ h, fun A outer s H args us vs Q E hr he hb hv hs => by
    refine codeAny_mono (F.run A outer s H args us vs Q (fun _ _ _ => False) hr he hb hv hs) ?_
    intro r s' h
    match r, h with
    | .ok (.ret u), h => exact h
    | .error er, h =>
      obtain ⟨a, B, H', cls, d, _, _, _, _, _, _, _, z⟩ := h
      exact z.elim⟩
section
variable {X : Cx} {e : Expr} {te : TE} {pos : Pos} {a : Addr} {oe : Obj} {cls : Value} {d : Option Addr} {pn : List (Addr × Obj)} {f : Str}
theorem xd_at {P : Program} {w : World} {H : Hp} {h : Heap} {dd : Addr} {fs : List (Str × V)} (hok : HOk P w H h) (ea : H dd = some (.xd fs)) : ∃ mA, h.Ns1 dd mA ∧ ∀ g, RelO (fs.lookup g) (mA g) := by
  have hx : ObjOk P w H h dd (.xd fs) := hok dd _ ea
  obtain ⟨mA, hns, hr⟩ := hx
  exact ⟨mA, hns, hr⟩
/-- e.f, e the error that the suite holds -/
def tErrF (K : PySem.W.Frag) (a : Addr) (cls : Value) (d : Option Addr) (f : Str) (te : TE) : TE := fun σ H Q => te σ H fun x H1 => x = .ref a ∧ ∃ (C dd : Addr) (v : V), cls = .ref C ∧ d = some dd ∧ ErrC K C ∧ PySem.W.findIn K (.ref C) f = some none ∧ H1 dd = some (.xd [(f, v)]) ∧ Q v H1
theorem pe_errF (hz : Zc cls d oe) (hf : ∃ vs, oe.data = .fields vs) (he : PE (X.suite a ((a, oe) :: pn)) e te) (hb : attributeBase e f X.env (eval e X.env) = eval e X.env := by rfl) :
    PE (X.suite a ((a, oe) :: pn)) (.Attribute e f pos) (tErrF X.K a cls d f te) := by
  refine ⟨fun pins s σ H Q I h => ?_⟩
  refine attr_of hb (thn (he.run pins s σ H _ I h) fun u s1 hh => ?_)
  obtain ⟨x, H1, I1, rx, ex, C, dd, v, ec, ed, T, no, ea, q⟩ := hh
  subst ex
  obtain rfl : u = Value.ref a := rx
  subst ec
  subst ed
  obtain ⟨ha, _⟩ := I1.pin (a, oe) (List.mem_append_left _ List.mem_cons_self)
  obtain ⟨vs, hd⟩ := hf
  obtain ⟨mA, hns, hr⟩ := xd_at I1.hok ea
  obtain ⟨od, ho, hl⟩ := lookIn_ns hns
  have l : List.lookup f [(f, v)] = some v := by simp [List.lookup]
  obtain ⟨u, hu, ru⟩ := RelO.some_of (v := v) (o := mA f) (by rw [← l]; exact hr f)
  have J : PySem.W.InstAt s1.heap a oe C (some od) := ⟨ha, hz.1, by unfold PySem.W.notCls; rw [hd] <;> rfl, by rw [hz.2]; exact ho⟩
  exact HandSPX.exc_get I1.kIn J T.ga T.gg T.exc (PySem.W.findObj_own T.hd no rfl (by rw [hl, hu])) (handed_of ru) ⟨v, H1, I1.tok _, ru, q⟩
/-- isinstance(e, ..), e the error that the suite holds -/
def rIsX (K : PySem.W.Frag) (a : Addr) (cls : Value) (d : Option Addr) : List V → Hp → VK → Prop := fun xs H Q =>
  ∃ (C : Addr) (c : V) (cu : Value) (b : Bool), xs = [.ref a, c] ∧ cls = .ref C ∧ (∀ dd, d = some dd → ∃ fs, H dd = some (.xd fs)) ∧ ErrC K C ∧ ClsV c cu ∧ PySem.W.kitOne K (.ref C) cu = some b ∧ Q (.bl b) H
theorem call_isX (hz : Zc cls d oe) (hf : ∃ vs, oe.data = .fields vs) : CallR (X.suite a ((a, oe) :: pn)) (.builtin "isinstance") (rIsX X.K a cls d) := by
  intro pins s σ H xs us Q I r h
  obtain ⟨C, c, cu, b, rfl, ec, hod, T, kc, ek, q⟩ := h
  obtain ⟨u1, u2, rfl, r1, r2⟩ := vals2 r
  obtain rfl : u1 = Value.ref a := r1
  have e2 := kc.eq r2
  subst e2
  subst ec
  obtain ⟨ha, _⟩ := I.pin (a, oe) (List.mem_append_left _ List.mem_cons_self)
  obtain ⟨vs, hd⟩ := hf
  have cls : (PySem.W.clsIn X.K C).isSome = true := by
    obtain ⟨cd, hcd, _⟩ := PySem.W.any_some T.hd
    rw [hcd]
    rfl
  have fin : ∀ tk, EP (X.suite a ((a, oe) :: pn)) pins σ Q (.bool b) { s with toks := tk } := fun tk => ⟨.bl b, H, I.tok tk, rfl, q⟩
  have no : PySem.W.notCls oe = true := by unfold PySem.W.notCls; rw [hd] <;> rfl
  cases d with
  | none =>
    exact PySem.W.kia_one (PySem.W.kitx_exc (od := none) cls T.ga T.gg T.exc T.hc T.hn T.ht T.hm) I.kIn (⟨ha, hz.1, no, by rw [hz.2]; exact trivial⟩ : PySem.W.InstAt s.heap a oe C none) ek (fun z => nomatch z) fin
  | some dx =>
    obtain ⟨fs, ed⟩ := hod dx rfl
    obtain ⟨mA, hns, _⟩ := xd_at I.hok ed
    obtain ⟨od, ho, _⟩ := lookIn_ns hns
    exact PySem.W.kia_one (PySem.W.kitx_exc (od := some od) cls T.ga T.gg T.exc T.hc T.hn T.ht T.hm) I.kIn (⟨ha, hz.1, no, by rw [hz.2]; exact ho⟩ : PySem.W.InstAt s.heap a oe C (some od)) ek (fun z => nomatch z) fin
end
end Wb

namespace Wf
def sumR : List Rat → Rat
  | [] => 0
  | q :: r => q + sumR r
def prodR : List Rat → Rat
  | [] => 1
  | q :: r => q * prodR r
theorem sumR_snoc (q : Rat) : ∀ l : List Rat, sumR (l ++ [q]) = sumR l + q
  | [] => by show q + 0 = 0 + q; rw [Rat.add_comm]
  | x :: l => by
    show x + sumR (l ++ [q]) = x + sumR l + q
    rw [sumR_snoc q l, Rat.add_assoc]
theorem prodR_snoc (q : Rat) : ∀ l : List Rat, prodR (l ++ [q]) = prodR l * q
  | [] => by show q * 1 = 1 * q; rw [Rat.mul_comm]
  | x :: l => by
    show x * prodR (l ++ [q]) = x * prodR l * q
    rw [prodR_snoc q l, Rat.mul_assoc]
theorem den_ne0 (q : Rat) : (q.den : Int) ≠ 0 := by
  have := q.den_pos
  omega
/-- the parts of a common bottom -/
def sumTop (L : Int) : List Rat → Int
  | [] => 0
  | q :: r => q.num * (L / q.den) + sumTop L r
theorem one_part {L : Int} (h : L ≠ 0) {q : Rat} (d : (q.den : Int) ∣ L) : Rat.divInt (q.num * (L / q.den)) L = q := by
  obtain ⟨m, rfl⟩ := d
  have m0 : m ≠ 0 := fun e => h (by rw [e, Int.mul_zero])
  rw [Int.mul_ediv_cancel_left _ (den_ne0 q), Rat.divInt_mul_right m0, Rat.num_divInt_den]
theorem add_parts {L a b : Int} (h : L ≠ 0) : Rat.divInt (a + b) L = Rat.divInt a L + Rat.divInt b L := by
  rw [Rat.divInt_add_divInt _ _ h h, ← Int.add_mul, Rat.divInt_mul_right h]
theorem sum_parts {L : Int} (h : L ≠ 0) : ∀ l : List Rat, (∀ q ∈ l, (q.den : Int) ∣ L) → Rat.divInt (sumTop L l) L = sumR l
  | [], _ => by show Rat.divInt 0 L = 0; exact Rat.zero_divInt _
  | q :: r, d => by
    show Rat.divInt (q.num * (L / q.den) + sumTop L r) L = q + sumR r
    rw [add_parts h, one_part h (d q List.mem_cons_self), sum_parts h r fun x hx => d x (List.mem_cons_of_mem _ hx)]
theorem sumTop_eq (L : Int) : ∀ l : List Rat, sumTop L l = (l.map fun q => q.num * (L / q.den)).sum
  | [] => rfl
  | q :: r => by
    show q.num * (L / q.den) + sumTop L r = _
    rw [sumTop_eq L r]
    simp
/-- a sum, a product kept as a top and a bottom -/
theorem step_sum {t b : Int} (hb : b ≠ 0) (q : Rat) : Rat.divInt (t * q.den + q.num * b) (b * q.den) = Rat.divInt t b + q := by
  have e : q = Rat.divInt q.num q.den := (Rat.num_divInt_den q).symm
  conv => rhs; rw [e]
  rw [Rat.divInt_add_divInt _ _ hb (den_ne0 q)]
theorem step_prod (t b : Int) (q : Rat) : Rat.divInt (t * q.num) (b * q.den) = Rat.divInt t b * q := by
  have e : q = Rat.divInt q.num q.den := (Rat.num_divInt_den q).symm
  conv => rhs; rw [e]
  rw [Rat.divInt_mul_divInt]
theorem one_le_two_pow (k : Nat) : 1 ≤ 2 ^ k := Nat.one_le_two_pow
theorem lcm_step {L : Nat} {q : Rat} {j k : Nat} (l0 : 0 < L) (hl : L < 2 ^ j) (hq : q.den < 2 ^ k) : 0 < Nat.lcm L q.den ∧ Nat.lcm L q.den < 2 ^ (j + k) ∧ q.den ∣ Nat.lcm L q.den ∧ L ∣ Nat.lcm L q.den := by
  refine ⟨Nat.lcm_pos l0 q.den_pos, ?_, Nat.dvd_lcm_right _ _, Nat.dvd_lcm_left _ _⟩
  have : Nat.lcm L q.den ≤ L * q.den := Nat.div_le_self _ _
  rw [Nat.pow_add]
  exact Nat.lt_of_le_of_lt this (Nat.mul_lt_mul'' hl hq)
/-- Euclid's steps -/
structure Euc (A B : Nat) (k i a b : Nat) : Prop where
  g : Nat.gcd a b = Nat.gcd A B
  first : i = 0 → a = A ∧ b = B
  later : 0 < i → b < a ∧ a * b * 2 ^ (i - 1) < 2 ^ (2 * k)
theorem euc_step {A B k i a b : Nat} (e : Euc A B k i a b) (hb : B < 2 ^ k) (b0 : b ≠ 0) : Euc A B k (i + 1) b (a % b) := by
  have bp : 0 < b := Nat.pos_of_ne_zero b0
  refine ⟨?_, fun z => by omega, fun _ => ⟨Nat.mod_lt _ bp, ?_⟩⟩
  · rw [← e.g, Nat.gcd_comm b, ← Nat.gcd_rec, Nat.gcd_comm]
  · by_cases hi : i = 0
    · obtain ⟨rfl, rfl⟩ := e.first hi
      subst hi
      show b * (a % b) * 2 ^ 0 < _
      have h1 : a % b < 2 ^ k := Nat.lt_trans (Nat.mod_lt _ bp) hb
      rw [Nat.pow_zero, Nat.mul_one, Nat.two_mul, Nat.pow_add]
      exact Nat.mul_lt_mul'' hb h1
    · obtain ⟨h1, h2⟩ := e.later (by omega)
      obtain ⟨j, rfl⟩ : ∃ j, i = j + 1 := ⟨i - 1, by omega⟩
      show b * (a % b) * 2 ^ (j + 1) < _
      have h3 : 2 * (a % b) ≤ a := by
        have := Nat.mod_add_div a b
        have q1 : 1 ≤ a / b := (Nat.le_div_iff_mul_le bp).mpr (by omega)
        have q2 : b * 1 ≤ b * (a / b) := Nat.mul_le_mul_left b q1
        have q3 := Nat.mod_lt a bp
        omega
      have h4 : b * (a % b) * 2 ^ (j + 1) ≤ a * b * 2 ^ j := by
        rw [Nat.pow_succ, Nat.mul_comm (2 ^ j) 2, ← Nat.mul_assoc, Nat.mul_comm a b]
        apply Nat.mul_le_mul_right
        rw [Nat.mul_assoc, Nat.mul_comm (a % b) 2]
        exact Nat.mul_le_mul_left b h3
      exact Nat.lt_of_le_of_lt h4 h2
theorem euc_end {A B k i a b : Nat} (e : Euc A B k i a b) (hi : 2 * k + 1 ≤ i) : b = 0 := by
  obtain ⟨h1, h2⟩ := e.later (by omega)
  by_cases z : b = 0
  · exact z
  · exfalso
    have p : 1 ≤ a * b := Nat.mul_pos (by omega) (by omega)
    have q : 2 ^ (2 * k) ≤ 2 ^ (i - 1) := Nat.pow_le_pow_right (by decide) (by omega)
    have r : 1 * 2 ^ (i - 1) ≤ a * b * 2 ^ (i - 1) := Nat.mul_le_mul_right _ p
    omega
theorem euc_done {A B k i a : Nat} (e : Euc A B k i a 0) : a = Nat.gcd A B := by
  rw [← e.g, Nat.gcd_zero_right]
end Wf

set_option Elab.async false
set_option linter.all false
set_option maxRecDepth 100000
set_option maxHeartbeats 4000000
namespace K02
open PySem PySem.Spec PyProof.Rows L2 Wb
def topS (i : Nat) : Stmt := PySem.Challenge.pw_whyblank_k02_whole_sums_quotients_and_or.main.body.getD i (.Pass ⟨0, 0, 0, 0⟩)
abbrev sSource : Stmt := topS 21
abbrev sAny : Stmt := topS 22
abbrev sOf : Stmt := topS 23

theorem ints_dp {K : PySem.W.Frag} {H : Hp} : ∀ cs : List Int, DpAll K H (cs.map V.int) (cs.map PyData.int)
  | [] => .nil
  | z :: cs => .cons (.int z) (ints_dp cs)
theorem ints_lay : ∀ cs : List Int, PyData.canLayAll0 (cs.map PyData.int) = true
  | [] => by simp [PyData.canLayAll0]
  | z :: cs => by simp [PyData.canLayAll0, PyData.canLay0, ints_lay cs]
theorem ints_depth : ∀ cs : List Int, PyData.depthAll (cs.map PyData.int) = 0
  | [] => by simp [PyData.depthAll]
  | z :: cs => by simp [PyData.depthAll, PyData.depth, ints_depth cs]
theorem ints_shaped (cs : List Int) : SeqAt.shaped (.list (cs.map PyData.int)) = true := by
  show (PyData.canLay0 (.list (cs.map PyData.int)) && decide (PyData.depth (.list (cs.map PyData.int)) ≤ 64)) = true
  rw [Bool.and_eq_true]
  refine ⟨by simp only [PyData.canLay0]; exact ints_lay cs, decide_eq_true ?_⟩
  simp only [PyData.depth, ints_depth]
  omega
theorem ints_eqv (cs : List Int) : PyData.eqv (.list (cs.map PyData.int)) (.list []) = cs.isEmpty := by
  cases cs with
  | nil => simp [PyData.eqv, PyData.eqvAll]
  | cons z r => simp [PyData.eqv, PyData.eqvAll]

section
variable {P : Program} {w : World} {K : PySem.W.Frag} {mg : Str → Option Value} {base : Heap}
theorem scAny : FnScope ["deal", "bound", "rest"] ["deal", "bound"] (defScope sAny) := ⟨rfl, rfl, rfl, by decide +kernel, rfl, by decide +kernel, by decide +kernel⟩

/-- how many cells are left -/
def left (c : Addr) (H : Hp) : Nat := match H c with
  | some (.lst xs) => xs.length
  | _ => 0

theorem ok_any {f : Addr} {fd : FuncData} (F : Fun K "_law_any" "_law_any" sAny f fd) (noInt : mg "int" = none) : FnOk P w K mg base CX0 1 f fd ["deal", "bound"] spAny := by
  refine F.ok scAny (fun vs H Q E h => ?_) (fun cdv A outer s H vs Q E hr h => ?_)
  · obtain ⟨d, c, bound, rfl, _⟩ := h
    rfl
  obtain ⟨d, c, bound, rfl, D, b0, b1, k⟩ := h
  refine ⟨_, pss_cons (ps_while PassesOwn.never (PW.pt (pw_and (pt_cmpR (op_neD hr.units) (pe_ix ix_list (pv 0) pe_int (fun _ _ => rfl)) (pe_lst pa_nil) (nomark _))
        (pw_and1 (pt_cmpR op_eq (pe_ix ix_list (pe_ix ix_list (pv 0) pe_int (fun _ _ => rfl)) (pe_un un_neg pe_int) (fun _ _ => rfl)) pe_int (nomark _)))))
      (pss_one (ps_expr (pe_bm0 PySem.F.plainAttrs_list PySem.F.slot_list_pop PySem.F.type_list_pop mt_pop (pe_ix ix_list (pv 0) pe_int (fun _ _ => rfl))))))
    (pss_cons (ps_if (pt_cmpR (op_neD hr.units) (pe_ix ix_list (pv 0) pe_int (fun _ _ => rfl)) (pe_lst pa_nil) (nomark _))
      (pss_cons (ps_set (i := 2) scAny.nd rfl (Or.inl rfl) (pe_callTy call_int1 (by rfl) noInt (by decide +kernel) (pa_cons (pe_bm0 PySem.F.plainAttrs_list PySem.F.slot_list_pop PySem.F.type_list_pop mt_pop (pe_ix ix_list (pv 0) pe_int (fun _ _ => rfl))) pa_nil)))
      (pss_cons (ps_expr (pe_bm PySem.F.plainAttrs_list PySem.F.slot_list_append PySem.F.type_list_append mt_append (pe_ix ix_list (pv 0) pe_int (fun _ _ => rfl)) (pa_cons (pe_op op_fdivW (pv 2) (pv 1)) pa_nil)))
      (pss_one (ps_ret (pe_op op_mod (pv 2) (pv 1)))))) pss_nil)
    (pss_cons (ps_asg (pe_op op_mod (pe_callTy call_int1 (by rfl) noInt (by decide +kernel) (pa_cons (pe_op op_add (pe_op op_mul (pe_ix ix_list (pv 0) pe_int (fun _ _ => rfl)) pe_int) pe_int) pa_nil)) pe_int) (pg_sub (pv 0) pe_int set_list))
    (pss_one (ps_ret (pe_op op_mod (pe_callTy call_int1 (by rfl) noInt (by decide +kernel) (pa_cons (pe_op op_fdiv (pe_ix ix_list (pv 0) pe_int (fun _ _ => rfl)) pe_int) pa_nil)) (pv 1))))))  , ?_⟩
  -- the cells that are 0 go
  refine whileI (fun σ H' => σ = [some (.ref d), some (.int bound), none] ∧ Deal H' d c ∧ Same (off H d c) (off H' d c))
    (fun σ H' => σ = [some (.ref d), some (.int bound), none] ∧ Deal H' d c ∧ Same (off H d c) (off H' d c)) (fun _ H' => left c H') ⟨rfl, D, Same.refl _⟩ ?_ ?_
  · -- behind it
    rintro σ G ⟨rfl, D', S'⟩
    obtain ⟨cs, mix, h1, h2, short, nn, m0, m1⟩ := D'.ex
    refine ⟨_, rfl, d, [.ref c, .int mix], 0, .ref c, rfl, rfl, SqL.of h1, rfl, ?_⟩
    refine ⟨Nat.zero_le _, fun l hl => ?_⟩
    have Sl : Same G (upd G l (.lst [])) := new_same hl
    have D2 : Deal (upd G l (.lst [])) d c := D'.same Sl
    have S2 : Same (off H d c) (off (upd G l (.lst [])) d c) := S'.trans (off_mono Sl)
    have h1' := Sl _ _ h1
    have h2' := Sl _ _ h2
    have ne := D'.ne
    refine ⟨.list (cs.map PyData.int), .list [], .lst (SqL.of h2') (ints_dp cs), .lst (SqL.of upd_same) .nil, ints_shaped cs, rfl, _, rfl, ?_⟩
    rw [ints_eqv]
    generalize upd G l (.lst []) = G2 at *
    rcases nil_or_last cs with rfl | ⟨ini, z, rfl⟩
    · -- no cell: the number goes on
      refine iteF ?_
      refine ⟨_, rfl, d, [.ref c, .int mix], 1, .int mix, rfl, rfl, SqL.of h1', rfl, ?_⟩
      refine ⟨_, _, rfl, rfl, .inl ⟨by omega, by omega⟩, _, _, rfl, rfl, .inl ⟨_, rfl, ?_⟩⟩
      refine ⟨_, _, rfl, rfl, (by show (0 : Int) < 2147483647; decide), ?_⟩
      refine ⟨_, rfl, d, [.ref c, .int mix], 1, 1, rfl, rfl, h1', rfl, ?_⟩
      obtain ⟨mix2, hm⟩ : ∃ mix2, mix2 = (mix * 48271 + 41) % 2147483647 := ⟨_, rfl⟩
      have at2 : upd G2 d (.lst ([V.ref c, V.int mix].set 1 (V.int ((mix * 48271 + 41) % 2147483647)))) d = some (.lst [.ref c, .int mix2]) := by
        rw [upd_same, hm]
        rfl
      have q0 : 0 ≤ mix2 := by omega
      have q1 : mix2 < 2147483647 := by omega
      refine ⟨_, rfl, d, [.ref c, .int mix2], 1, .int mix2, rfl, rfl, SqL.of at2, rfl, ?_⟩
      refine ⟨_, _, rfl, rfl, ⟨by decide, by decide⟩, .inl ⟨_, rfl, ?_⟩⟩
      refine ⟨_, rfl, _, _, rfl, rfl, b0, ?_⟩
      refine k _ _ (Int.emod_nonneg _ (by omega)) (Int.emod_lt_of_pos _ b0) ⟨[], mix2, at2, ?_, short, nn, q0, q1⟩ ?_
      · show upd G2 d _ c = _
        rw [upd_ne ne.symm]
        exact h2'
      · show Same _ (off (upd G2 d _) d c)
        rw [off_d]
        exact S2
    · -- a cell
      have e : (ini ++ [z]).isEmpty = false := by simp
      rw [e]
      refine iteT ?_
      have em : (ini ++ [z]).map V.int = ini.map V.int ++ [V.int z] := by simp
      rw [em] at h2'
      have z0 : 0 ≤ z := nn z (by simp)
      refine ⟨_, rfl, d, [.ref c, .int mix], 0, .ref c, rfl, rfl, SqL.of h1', rfl, .inl ⟨rfl, _, SqL.of h2'⟩, c, _, .int z, rfl, rfl, h2', by simp, .inl ⟨_, rfl, ?_⟩⟩
      rw [List.dropLast_concat]
      refine ⟨_, rfl, d, [.ref c, .int mix], 0, .ref c, rfl, rfl, SqL.of ((upd_ne ne).trans h1'), rfl, .inl ⟨rfl, _, SqL.of upd_same⟩, ?_⟩
      refine ⟨_, rfl, _, rfl, _, _, rfl, rfl, ?_, c, _, _, rfl, rfl, upd_same, ?_, ?_⟩
      · exact wide_div b0 (b := 300) (by omega) (by decide) (by decide)
      · rw [List.length_map, sizeLine_eq]
        simp at short
        omega
      refine ⟨_, rfl, _, rfl, _, _, rfl, rfl, b0, ?_⟩
      refine k _ _ (Int.emod_nonneg _ (by omega)) (Int.emod_lt_of_pos _ b0) ⟨ini ++ [z / bound], mix, ?_, ?_, ?_, ?_, m0, m1⟩ ?_
      · rw [upd_ne ne, upd_ne ne]
        exact h1'
      · rw [upd_same]
        simp
      · simpa using short
      · intro y hy
        rcases List.mem_append.mp hy with h | h
        · exact nn y (List.mem_append_left _ h)
        · simp at h
          rw [h]
          exact Int.ediv_nonneg z0 (by omega)
      · rw [off_c, off_c]
        exact S2
  · -- a turn
    rintro σ H' ⟨rfl, D', S'⟩ Y Z hY hZ
    obtain ⟨cs, mix, h1, h2, short, nn, m0, m1⟩ := D'.ex
    refine ⟨_, rfl, d, [.ref c, .int mix], 0, .ref c, rfl, rfl, SqL.of h1, rfl, ?_⟩
    refine ⟨Nat.zero_le _, fun l hl => ?_⟩
    have Sl : Same H' (upd H' l (.lst [])) := new_same hl
    have D2 : Deal (upd H' l (.lst [])) d c := D'.same Sl
    have S2 : Same (off H d c) (off (upd H' l (.lst [])) d c) := S'.trans (off_mono Sl)
    have h1' := Sl _ _ h1
    have h2' := Sl _ _ h2
    have len2 : left c H' = cs.length := by
      unfold left
      rw [h2]
      simp
    refine ⟨.list (cs.map PyData.int), .list [], .lst (SqL.of h2') (ints_dp cs), .lst (SqL.of upd_same) .nil, ints_shaped cs, rfl, _, rfl, ?_⟩
    rw [ints_eqv]
    generalize upd H' l (.lst []) = G at *
    rcases nil_or_last cs with rfl | ⟨ini, z, rfl⟩
    · refine iteF (iteF ?_)
      exact hZ _ ⟨rfl, D2, S2⟩
    · have e : (ini ++ [z]).isEmpty = false := by simp
      rw [e]
      refine iteT ?_
      have em : (ini ++ [z]).map V.int = ini.map V.int ++ [V.int z] := by simp
      rw [em] at h2'
      refine ⟨_, rfl, d, [.ref c, .int mix], 0, .ref c, rfl, rfl, SqL.of h1', rfl, 1, rfl, c, ini.map V.int ++ [V.int z], -1, .int z, rfl, rfl, SqL.of h2', atI_last _ _, rfl, _, rfl, ?_⟩
      refine ite2 (fun hz => ?_) (fun hz => ?_)
      · refine hY _ ?_
        refine ⟨_, rfl, d, [.ref c, .int mix], 0, .ref c, rfl, rfl, SqL.of h1', rfl, .inl ⟨rfl, _, SqL.of h2'⟩, c, _, .int z, rfl, rfl, h2', by simp, ?_⟩
        have ne := D2.ne
        refine ⟨⟨rfl, ⟨ini, mix, ?_, ?_, ?_, fun y hy => nn y (List.mem_append_left _ hy), m0, m1⟩, ?_⟩, ?_⟩
        · rw [upd_ne ne]
          exact h1'
        · rw [upd_same, List.dropLast_concat]
        · simp at short
          omega
        · rw [off_c]
          exact S2
        · rw [len2]
          unfold left
          rw [upd_same, List.dropLast_concat]
          simp
      · exact hZ _ ⟨rfl, D2, S2⟩
end
end K02

set_option Elab.async false
set_option linter.all false
set_option maxRecDepth 100000
set_option maxHeartbeats 4000000
namespace K02
open PySem PySem.Spec PyProof.Rows L2 Wb
section
variable {P : Program} {w : World} {K : PySem.W.Frag} {mg : Str → Option Value} {base : Heap}
theorem scOf : FnScope ["deal", "some"] ["deal", "some"] (defScope sOf) := ⟨rfl, rfl, rfl, by decide +kernel, rfl, by decide +kernel, by decide +kernel⟩
theorem ok_of {f fA : Addr} {fd fdA : FuncData} (F : Fun K "_law_of" "_law_of" sOf f fd) (GA : FnOk P w K mg base CX0 1 fA fdA ["deal", "bound"] spAny) (mA : mg "_law_any" = some (.ref fA)) (kA : PySem.W.keepIn K (.ref fA) = true) (bA : Binds K fdA ["deal", "bound"] [])
    (noLen : mg "len" = none) : FnOk P w K mg base CX0 2 f fd ["deal", "some"] (spOf K) := by
  refine F.ok scOf (fun vs H Q E h => ?_) (fun cdv A outer s H vs Q E hr h => ?_)
  · obtain ⟨d, c, x, rfl, _⟩ := h
    rfl
  obtain ⟨d, c, x, rfl, D, k⟩ := h
  refine ⟨_, pss_one (ps_ret (pe_ix ix_seq (pv 1) (pe_call GA hr rfl mA kA bA .nil pass0 (pa_cons (pv 0) (pa_cons (pe_callB call_len (by rfl) noLen (by decide +kernel) (pa_cons (pv 1) pa_nil)) pa_nil))) (fun _ _ => rfl))), ?_⟩
  rcases k with ⟨p, xs, rfl, hs, ne, few, k⟩ | ⟨p, xs, rfl, hs, ne, few, k⟩ | ⟨z, rfl, ne, few, k⟩
  · have pos : 0 < xs.length := List.length_pos_iff.mpr ne
    refine ⟨_, rfl, _, rfl, _, rfl, _, xs.length, rfl, .inl ⟨xs, (off_le H d c).seq hs, rfl⟩, d, c, xs.length, rfl, D, by omega, by omega, fun r H' r0 r1 D' S' => ?_⟩
    obtain ⟨v, hv, at_⟩ := item_at r0 r1
    exact .inl ⟨p, xs, r, v, rfl, rfl, (off_le H' d c).seq (S'.seq hs), at_, k v H' hv D' S'⟩
  · have pos : 0 < xs.length := List.length_pos_iff.mpr ne
    refine ⟨_, rfl, _, rfl, _, rfl, _, xs.length, rfl, .inr ⟨xs, seqT (off_le H d c) hs, rfl⟩, d, c, xs.length, rfl, D, by omega, by omega, fun r H' r0 r1 D' S' => ?_⟩
    obtain ⟨v, hv, at_⟩ := item_at r0 r1
    exact .inr (.inl ⟨p, xs, r, v, rfl, rfl, seqT (off_le H' d c) (seqT S' hs), at_, k v H' hv D' S'⟩)
  · have line := sizeLine_eq
    refine ⟨_, rfl, _, rfl, _, rfl, _, z.length, rfl, ⟨by omega, rfl⟩, d, c, z.length, rfl, D, by omega, by omega, fun r H' r0 r1 D' S' => ?_⟩
    obtain ⟨j, rfl⟩ := Int.eq_ofNat_of_zero_le r0
    have hj : j < z.cps.toList.length := by
      have e : z.cps.toList.length = z.length := by simp [Str.length]
      omega
    exact .inr (.inr ⟨z, (j : Int), z.cps.toList[j], rfl, rfl, by omega, atI_nat (List.getElem?_eq_getElem hj), k _ H' (List.getElem_mem hj) D' S'⟩)

/-- _law_source(script): a new deal -/
def spSource (K : PySem.W.Frag) : Sp := fun vs H Q _ => ∃ (a : Addr) (ns : List Int), vs = [.ref a] ∧ SqL K H a (ns.map V.int) ∧ ns.length ≤ 63 ∧
  ∀ (d c : Addr) (H' : Hp), H d = none → H c = none → Deal H' d c → Same H H' → Q (.ref d) H'
theorem scSource : FnScope ["script", "cells", "blend", "cell"] ["script"] (defScope sSource) := ⟨rfl, rfl, rfl, by decide +kernel, rfl, by decide +kernel, by decide +kernel⟩
theorem ok_source {f : Addr} {fd : FuncData} (F : Fun K "_law_source" "_law_source" sSource f fd) (noInt : mg "int" = none) (noAbs : mg "abs" = none) : FnOk P w K mg base CX0 1 f fd ["script"] (spSource K) := by
  refine F.ok scSource (fun vs H Q E h => ?_) (fun cdv A outer s H vs Q E hr h => ?_)
  · obtain ⟨a, ns, rfl, _⟩ := h
    rfl
  obtain ⟨a, ns, rfl, hs, few, k⟩ := h
  refine ⟨_, pss_cons (ps_setLc (i := 1) (own := [("cell", 3)]) (g := gName 3) (tt := tYes) rfl scSource.nd rfl rfl (sw_true rfl rfl rfl (by decide +kernel)) (pi_list (pe_slice sl_list (pv 0) po_none (po_some pe_int)))
      (blkOk_by (own := [("cell", 3)]) (N := ["script", "cells", "blend", "cell"]) (sc := defScope sSource) (by decide +kernel)) (fun _ _ _ _ _ => pg_name (i := 3) scSource.nd rfl (Or.inl rfl)) (fun _ _ _ _ _ => pts_nil)
      (fun _ _ _ _ _ => pe_callB call_abs (by rfl) noAbs (by decide +kernel) (pa_cons (pe_callTy call_int1 (by rfl) noInt (by decide +kernel) (pa_cons (pv 3) pa_nil)) pa_nil)))
    (pss_cons (ps_set (i := 2) scSource.nd rfl (Or.inl rfl) pe_int)
    (pss_cons (ps_for PassesOwn.never rfl (pi_list (pv 1)) (pg_name (i := 3) scSource.nd rfl (Or.inl rfl))
      (pss_one (ps_set (i := 2) scSource.nd rfl (Or.inl rfl) (pe_op op_mod (pe_callTy call_int1 (by rfl) noInt (by decide +kernel) (pa_cons (pe_op op_add (pe_op op_add (pe_op op_mul (pv 2) pe_int) (pe_op op_mod (pv 3) pe_int)) pe_int) pa_nil)) pe_int))))
    (pss_one (ps_ret (pe_lst (pa_cons (pe_revL (pe_lc (own := [("cell", 3)]) (g := gName 3) rfl scSource.nd (pi_list (pv 1))
      (blkOk_by (own := [("cell", 3)]) (N := ["script", "cells", "blend", "cell"]) (sc := defScope sSource) (by decide +kernel)) (fun _ _ _ _ _ => pg_name (i := 3) scSource.nd rfl (Or.inl rfl))
      (fun _ _ _ _ _ => pts_one (pt_cmpR op_ge (pv 3) (pe_op op_pow pe_int pe_int) (nomark _))) (fun _ _ _ _ _ => pv 3))) (pa_cons (pv 2) pa_nil))))))), ?_⟩
  -- the slice
  refine ⟨_, rfl, 63, rfl, a, ns.map V.int, rfl, hs, fun p hp => ?_⟩
  obtain ⟨ms, em, fewM⟩ : ∃ ms : List Int, cutV (ns.map V.int) none (some 63) = ms.map V.int ∧ ms.length ≤ 63 := by
    refine ⟨(ns.drop (HT.sIx (ns.map V.int).length 0 none)).take (HT.sIx (ns.map V.int).length (ns.map V.int).length (some 63) - HT.sIx (ns.map V.int).length 0 none), ?_, ?_⟩
    · unfold cutV
      rw [List.map_take, List.map_drop]
    · rw [List.length_take, List.length_drop]
      omega
  rw [em]
  have Sp : Same H (upd H p (.lst (ms.map V.int))) := new_same hp
  have atp : upd H p (.lst (ms.map V.int)) p = some (.lst (ms.map V.int)) := upd_same
  generalize upd H p (.lst (ms.map V.int)) = H1 at *
  refine ⟨p, rfl, ⟨_, SqL.of atp⟩, fun D hD => ?_⟩
  -- the cells
  refine lc_list (K := K) (a := p) (xs := ms.map V.int) (fun i G => ∃ acc : List Int, G D = some (.lst (acc.map V.int)) ∧ acc.length = i ∧ (∀ z ∈ acc, 0 ≤ z) ∧ Same H1 G)
    ⟨[], upd_same, rfl, (fun z hz => nomatch hz), new_same hD⟩ (fun i G _ ⟨_, _, _, _, sg⟩ => sg.seq (SqL.of atp)) ?_ ?_
  · rintro i x G hx ⟨acc, hG, hi, hnn, sg⟩
    have hi' : i < ms.length := by
      have := (List.getElem?_eq_some_iff.mp hx).1
      simpa using this
    obtain ⟨z, rfl⟩ : ∃ z, x = V.int z := by
      rw [List.getElem?_map] at hx
      obtain ⟨z, _, e⟩ := Option.map_eq_some_iff.mp hx
      exact ⟨z, e.symm⟩
    refine ⟨rfl, ?_⟩
    refine ⟨_, rfl, .inl ⟨z, rfl, z, rfl, acc.map V.int, hG, ?_, acc ++ [if z < 0 then -z else z], ?_, ?_, ?_, ?_⟩⟩
    · rw [List.length_map, sizeLine_eq]
      omega
    · rw [upd_same]
      simp
    · simp [hi]
    · intro y hy
      rcases List.mem_append.mp hy with q | q
      · exact hnn y q
      · simp at q
        rw [q]
        split <;> omega
    · intro b' o e
      rw [upd_ne (ne_of_none e hD)]
      exact sg b' o e
  rintro G ⟨acc, hG, hi, hnn, sg⟩
  rw [List.length_map] at hi
  -- the first number
  refine ⟨_, rfl, D, rfl, ⟨_, SqL.of hG⟩, for_list (K := K) (a := D) (xs := acc.map V.int) (fun i σ G' => ∃ (mix : Int) (v : Option V), σ = [some (.ref a), some (.ref D), some (.int mix), v] ∧ 0 ≤ mix ∧ mix < 2147483647 ∧ G' = G)
    ⟨_, none, rfl, by omega, by omega, rfl⟩ (fun i σ G' _ ⟨_, _, _, _, _, e⟩ => by rw [e]; exact SqL.of hG) ?_ ?_⟩
  · rintro i y σ G' hy ⟨mix, v, rfl, q0, q1, rfl⟩
    obtain ⟨z, rfl⟩ : ∃ z, y = V.int z := by
      rw [List.getElem?_map] at hy
      obtain ⟨z, _, e⟩ := Option.map_eq_some_iff.mp hy
      exact ⟨z, e.symm⟩
    refine ⟨_, rfl, _, _, rfl, rfl, .inl ⟨by omega, by omega⟩, _, rfl, _, _, rfl, rfl, (by show (0 : Int) < 2147483549; decide), _, _, rfl, rfl, _, _, rfl, rfl, .inl ⟨_, rfl, ?_⟩⟩
    refine ⟨_, _, rfl, rfl, (by show (0 : Int) < 2147483647; decide), ?_⟩
    exact ⟨_, _, rfl, Int.emod_nonneg _ (by decide), Int.emod_lt_of_pos _ (by decide), rfl⟩
  rintro σ G' ⟨mix, v, rfl, q0, q1, rfl⟩
  -- the great cells, turned
  refine ⟨_, rfl, D, rfl, ⟨_, SqL.of hG⟩, fun D2 hD2 => ?_⟩
  refine lc_list (K := K) (a := D) (xs := acc.map V.int) (fun i G2 => ∃ big : List Int, G2 D2 = some (.lst (big.map V.int)) ∧ big.length ≤ i ∧ (∀ z ∈ big, 0 ≤ z) ∧ Same G' G2)
    ⟨[], upd_same, Nat.le_refl _, (fun z hz => nomatch hz), new_same hD2⟩ (fun i G2 _ ⟨_, _, _, _, s2⟩ => s2.seq (SqL.of hG)) ?_ ?_
  · rintro i x G2 hx ⟨big, hB, hl, hbn, s2⟩
    have hx2 := hx
    have hi' : i < acc.length := by
      have := (List.getElem?_eq_some_iff.mp hx).1
      simpa using this
    obtain ⟨z, hz, rfl⟩ : ∃ z, z ∈ acc ∧ x = V.int z := by
      rw [List.getElem?_map] at hx
      obtain ⟨z, hz, e⟩ := Option.map_eq_some_iff.mp hx
      exact ⟨z, List.mem_of_getElem? hz, e.symm⟩
    refine ⟨rfl, _, rfl, _, _, rfl, rfl, ⟨by decide, by decide, by decide⟩, _, _, rfl, rfl, _, rfl, ?_⟩
    refine ite2 (fun _ => ?_) (fun _ => ?_)
    · refine ⟨_, rfl, big.map V.int, hB, ?_, big ++ [z], ?_, ?_, ?_, ?_⟩
      · rw [List.length_map, sizeLine_eq]
        omega
      · rw [upd_same]
        simp
      · simp
        omega
      · intro y hy
        rcases List.mem_append.mp hy with q | q
        · exact hbn y q
        · simp at q
          rw [q]
          exact hnn z hz
      · intro b' o e
        rw [upd_ne (ne_of_none e hD2)]
        exact s2 b' o e
    · exact ⟨big, hB, by omega, hbn, s2⟩
  rintro G2 ⟨big, hB, hl, hbn, s2⟩
  rw [List.length_map] at hl
  refine ⟨D2, _, rfl, SqL.of hB, fun c hc => ?_⟩
  have Sc : Same G2 (upd G2 c (.lst (big.map V.int).reverse)) := new_same hc
  have atc : upd G2 c (.lst (big.map V.int).reverse) c = some (.lst (big.reverse.map V.int)) := by rw [upd_same, List.map_reverse]
  generalize upd G2 c (.lst (big.map V.int).reverse) = G3 at *
  refine ⟨_, rfl, (by show 2 ≤ sizeLine; decide), fun d hd => ?_⟩
  have S3 : Same H G3 := ((Sp.trans sg).trans s2).trans Sc
  have S4 : Same G3 (upd G3 d (.lst [.ref c, .int mix])) := new_same hd
  refine k d c _ (S3.free hd) (((Sp.trans sg).trans s2).free hc) ⟨big.reverse, mix, upd_same, S4 _ _ atc, ?_, ?_, q0, q1⟩ (S3.trans S4)
  · simp
    omega
  · intro z hz
    exact hbn z (List.mem_reverse.mp hz)
end
end K02

set_option Elab.async false
set_option linter.all false
set_option maxRecDepth 100000
set_option maxHeartbeats 4000000
namespace K02
open PySem PySem.Spec PyProof.Rows L2 Wb Wf
abbrev sIni : Stmt := inClass (topS 4) 0
abbrev sFraction : Stmt := topS 8
abbrev sPlus : Stmt := topS 9
abbrev sMinus : Stmt := topS 10
abbrev sTimes : Stmt := topS 11
abbrev sOver : Stmt := topS 12
abbrev sCompared : Stmt := topS 13
abbrev sSign : Stmt := topS 14
/-- a fraction's top and bottom -/
def fr (q : Rat) : List V := [.int q.num, .int (q.den : Int)]
def Fr (K : PySem.W.Frag) (H : Hp) (a : Addr) (q : Rat) : Prop := SqT K H a (fr q)
theorem Fr.same {K : PySem.W.Frag} {H H' : Hp} {a : Addr} {q : Rat} (h : Fr K H a q) (s : Same H H') : Fr K H' a q := seqT s h
theorem Fr.new {K : PySem.W.Frag} {H : Hp} {a : Addr} {q : Rat} : Fr K (upd H a (.tup (fr q))) a q := SqT.of upd_same
theorem at0 (q : Rat) : atI (fr q) 0 = some (.int q.num) := rfl
theorem at1 (q : Rat) : atI (fr q) 1 = some (.int (q.den : Int)) := rfl
/-- the error of sizes -/
structure KitS (K : PySem.W.Frag) (mg : Str → Option Value) (C fI : Addr) (fd : FuncData) : Prop where
  T : ErrC K C
  mgC : mg "InvalidSize" = some (.ref C)
  iC : PySem.W.findIn K (.ref C) "__init__" = some (some (.ref fI))
  tI : PySem.W.typeIn K (.ref fI) = some (.type "function")
  no : PySem.W.findIn K (.ref C) "word" = some none
  F : Fun K "__init__" "InvalidSize.__init__" sIni fI fd
  b : Binds K fd ["self", "word"] []
/-- fraction(top, bottom) -/
def spFrac (CS : Addr) : Sp := fun vs H Q E => ∃ t b : Int, vs = [.int t, .int b] ∧ (b ≠ 0 → b.natAbs < 2 ^ 8000 ∧ ∀ p, H p = none → Q (.ref p) (upd H p (.tup (fr (Rat.divInt t b))))) ∧
  (b = 0 → ∀ dx, H dx = none → E (.ref CS) (some dx) (upd H dx (.xd [("word", .str "bottom")])))
/-- two fractions, a new one -/
def spBin (K : PySem.W.Frag) (op : Rat → Rat → Rat) : Sp := fun vs H Q _ => ∃ (a b : Addr) (p q : Rat), vs = [.ref a, .ref b] ∧ Fr K H a p ∧ Fr K H b q ∧ Sz 3000 p ∧ Sz 3000 q ∧ ∀ r, H r = none → Q (.ref r) (upd H r (.tup (fr (op p q))))
def spOver (K : PySem.W.Frag) (CS : Addr) : Sp := fun vs H Q E => ∃ (a b : Addr) (p q : Rat), vs = [.ref a, .ref b] ∧ Fr K H a p ∧ Fr K H b q ∧ Sz 3000 p ∧ Sz 3000 q ∧ (q ≠ 0 → ∀ r, H r = none → Q (.ref r) (upd H r (.tup (fr (p / q))))) ∧
  (q = 0 → ∀ dx, H dx = none → E (.ref CS) (some dx) (upd H dx (.xd [("word", .str "bottom")])))
def spCmp (K : PySem.W.Frag) : Sp := fun vs H Q _ => ∃ (a b : Addr) (p q : Rat), vs = [.ref a, .ref b] ∧ Fr K H a p ∧ Fr K H b q ∧ Sz 3000 p ∧ Sz 3000 q ∧ Q (.int (cmpR p q)) H
def spSign (K : PySem.W.Frag) : Sp := fun vs H Q _ => ∃ (a : Addr) (p : Rat), vs = [.ref a] ∧ Fr K H a p ∧ Sz 3000 p ∧ Q (.int (cmpR p 0)) H
theorem den_ne (q : Rat) : (q.den : Int) ≠ 0 := by
  have := q.den_pos
  omega
theorem dens_ne (p q : Rat) : (p.den : Int) * q.den ≠ 0 := Int.mul_ne_zero (den_ne p) (den_ne q)
theorem lt_mulI {i j : Int} {a b : Nat} (ha : i.natAbs < 2 ^ a) (hb : j.natAbs < 2 ^ b) : (i * j).natAbs < 2 ^ (a + b) := wide_lt ha hb
theorem denA (q : Rat) : ((q.den : Int)).natAbs = q.den := Int.natAbs_natCast _
theorem sz_den {k : Nat} {q : Rat} (h : Sz k q) : ((q.den : Int)).natAbs < 2 ^ k := by
  rw [denA]
  exact h.bot
theorem mulOk {i j : Int} (h1 : i.natAbs < 2 ^ 3000) (h2 : j.natAbs < 2 ^ 3000) : CMulW i j := wide_mul h1 h2 (by decide) (by decide) (by decide)
theorem dens_lt {p q : Rat} (h1 : Sz 3000 p) (h2 : Sz 3000 q) : ((p.den : Int) * q.den).natAbs < 2 ^ 8000 := Nat.lt_of_lt_of_le (lt_mulI (sz_den h1) (sz_den h2)) (Nat.pow_le_pow_right (by decide) (by decide))
section
variable {P : Program} {w : World} {K : PySem.W.Frag} {mg : Str → Option Value} {base : Heap} {C fI : Addr} {fdI : FuncData}
theorem ok_ini (k : KitS K mg C fI fdI) : FnOk P w K mg base CX0 1 fI fdI ["self", "word"] (spIni C "word") := by
  refine k.F.ok (N := ["self", "word"]) ⟨rfl, rfl, rfl, by decide +kernel, rfl, by decide +kernel, by decide +kernel⟩ (fun vs H Q E h => ?_) (fun cdv A outer s H vs Q E hr h => ?_)
  · obtain ⟨a, v, rfl, _⟩ := h
    rfl
  · obtain ⟨a, v, rfl, ha, q⟩ := h
    refine ⟨_, pss_one (ps_ini (pv 0) (pv 1)), ?_⟩
    exact ⟨_, rfl, _, rfl, a, C, rfl, k.T, k.no, ha, q⟩
theorem scFraction : FnScope ["top", "bottom", "common"] ["top", "bottom"] (defScope sFraction) := ⟨rfl, rfl, rfl, by decide +kernel, rfl, by decide +kernel, by decide +kernel⟩
theorem ok_fraction {f : Addr} {fd : FuncData} (F : Fun K "fraction" "fraction" sFraction f fd) (k : KitS K mg C fI fdI) (mgG : mg "gcd" = some (.builtin "math.gcd")) : FnOk P w K mg base (L2.CX P w) 3 f fd ["top", "bottom"] (spFrac C) := by
  refine F.okX scFraction (fun vs H Q E h => ?_) (fun cdv A outer s H vs Q E hr h => ?_)
  · obtain ⟨t, b, rfl, _⟩ := h
    rfl
  obtain ⟨t, b, rfl, q1, q2⟩ := h
  have G : FnOk P w K mg base CX0 1 fI fdI ["self", "word"] (spIni C "word") := ok_ini k
  refine ⟨_, pss_cons (ps_if (pt_cmpR op_eq (pv 1) pe_int (nomark _)) (pss_one (ps_raise rfl (takes_of rfl rfl rfl rfl) (pmk_err k.T k.iC k.tI G hr k.b pass0 rfl k.mgC (pa_cons pe_str pa_nil)))) pss_nil)
    (pss_cons (ps_set (i := 2) scFraction.nd rfl (Or.inl rfl) (pe_callBfun cr_gcd rfl mgG (pa_cons (pv 0) (pa_cons (pv 1) pa_nil))))
    (pss_cons (ps_if (pt_cmpR op_lt (pv 1) pe_int (nomark _)) (pss_one (ps_set (i := 2) scFraction.nd rfl (Or.inl rfl) (pe_un un_neg (pv 2)))) pss_nil)
    (pss_one (ps_ret (pe_tup (pa_cons (pe_op op_fdivS (pv 0) (pv 2)) (pa_cons (pe_op op_fdivS (pv 1) (pv 2)) pa_nil))))))), ?_⟩
  refine ⟨_, rfl, rfl, _, rfl, ?_⟩
  refine ite2 (fun h => ?_) (fun h => ?_)
  · have e : b = 0 := V.int.inj (of_decide_eq_true h)
    exact ⟨.str "bottom", rfl, q2 e⟩
  have nz : b ≠ 0 := fun e => h (decide_eq_true (by rw [e]))
  obtain ⟨small, q⟩ := q1 nz
  clear h q2 q1
  refine ⟨_, rfl, _, rfl, t, b, rfl, ?_⟩
  have gl : ((Nat.gcd t.natAbs b.natAbs : Nat) : Int).natAbs < 2 ^ 8000 := by
    rw [Int.natAbs_natCast]
    exact Nat.lt_of_le_of_lt (Nat.gcd_le_right _ (Int.natAbs_pos.mpr nz)) small
  have fin : ∀ c : Int, c = (if b < 0 then -((Nat.gcd t.natAbs b.natAbs : Nat) : Int) else ((Nat.gcd t.natAbs b.natAbs : Nat) : Int)) → CDivS t c ∧ CDivS b c ∧ t.fdiv c = (Rat.divInt t b).num ∧ b.fdiv c = ((Rat.divInt t b).den : Int) := by
    intro c hc
    obtain ⟨c0, e1, e2⟩ := frac_val t b nz c hc
    have lg : c.natAbs.log2 < 9000 := by
      have : c.natAbs = ((Nat.gcd t.natAbs b.natAbs : Nat) : Int).natAbs := by
        rw [hc]
        split
        · rw [Int.natAbs_neg]
        · rfl
      rw [this]
      exact Nat.lt_trans (log_le gl (by decide)) (by decide)
    exact ⟨⟨c0, lg⟩, ⟨c0, lg⟩, e1, e2⟩
  dsimp only [gName]
  refine seqI (t1 := tIfS _ _ _) (fun σ' J => ∃ c : Int, σ' = [some (.int t), some (.int b), some (.int c)] ∧ J = H ∧ c = (if b < 0 then -((Nat.gcd t.natAbs b.natAbs : Nat) : Int) else ((Nat.gcd t.natAbs b.natAbs : Nat) : Int))) ?_ ?_
  · rintro σ' J ⟨c, rfl, rfl, hc⟩
    obtain ⟨d1, d2, e1, e2⟩ := fin c hc
    refine ⟨_, rfl, _, rfl, _, _, rfl, rfl, d1, _, rfl, _, rfl, _, _, rfl, rfl, d2, (by show 2 ≤ sizeLine; decide), ?_⟩
    have e : ([V.int (t.fdiv c), V.int (b.fdiv c)] : List V) = fr (Rat.divInt t b) := by
      rw [e1, e2]
      rfl
    intro p hp
    have q3 := q p hp
    rw [← e] at q3
    exact q3
  · intro Z hZ
    refine ⟨_, rfl, _, _, rfl, rfl, _, rfl, ?_⟩
    refine ite2 (fun h => ?_) (fun h => ?_)
    · have e : b < 0 := of_decide_eq_true h
      refine ⟨_, rfl, _, rfl, ?_⟩
      exact hZ _ _ ⟨_, rfl, rfl, (if_pos e).symm⟩
    · have e : ¬ b < 0 := fun z => h (decide_eq_true z)
      exact hZ _ _ ⟨_, rfl, rfl, (if_neg e).symm⟩
section
variable {fF : Addr} {fdF : FuncData}
theorem scPlus : FnScope ["one", "other"] ["one", "other"] (defScope sPlus) := ⟨rfl, rfl, rfl, by decide +kernel, rfl, by decide +kernel, by decide +kernel⟩
theorem scMinus : FnScope ["one", "other"] ["one", "other"] (defScope sMinus) := ⟨rfl, rfl, rfl, by decide +kernel, rfl, by decide +kernel, by decide +kernel⟩
theorem scTimes : FnScope ["one", "other"] ["one", "other"] (defScope sTimes) := ⟨rfl, rfl, rfl, by decide +kernel, rfl, by decide +kernel, by decide +kernel⟩
theorem scOver : FnScope ["one", "other"] ["one", "other"] (defScope sOver) := ⟨rfl, rfl, rfl, by decide +kernel, rfl, by decide +kernel, by decide +kernel⟩
theorem scCompared : FnScope ["one", "other", "ahead", "behind"] ["one", "other"] (defScope sCompared) := ⟨rfl, rfl, rfl, by decide +kernel, rfl, by decide +kernel, by decide +kernel⟩
theorem scSign : FnScope ["one"] ["one"] (defScope sSign) := ⟨rfl, rfl, rfl, by decide +kernel, rfl, by decide +kernel, by decide +kernel⟩
variable (GF : FnOk P w K mg base (L2.CX P w) 3 fF fdF ["top", "bottom"] (spFrac C)) (mF : mg "fraction" = some (.ref fF)) (kF : PySem.W.keepIn K (.ref fF) = true) (bF : Binds K fdF ["top", "bottom"] [])
include GF mF kF bF
theorem ok_plus {f : Addr} {fd : FuncData} (F : Fun K "plus" "plus" sPlus f fd) : FnOk P w K mg base CX0 4 f fd ["one", "other"] (spBin K (· + ·)) := by
  refine F.ok scPlus (fun vs H Q E h => ?_) (fun cdv A outer s H vs Q E hr h => ?_)
  · obtain ⟨a, b, p, q, rfl, _⟩ := h
    rfl
  obtain ⟨a, b, p, q, rfl, hp, hq, zp, zq, k⟩ := h
  refine ⟨_, pss_one (ps_ret (pe_call (quiet GF) hr rfl mF kF bF .nil pass0 (pa_cons (pe_op op_add (pe_op op_mulW (pe_ix ix_tup (pv 0) pe_int (fun _ _ => rfl)) (pe_ix ix_tup (pv 1) pe_int (fun _ _ => rfl))) (pe_op op_mulW (pe_ix ix_tup (pv 1) pe_int (fun _ _ => rfl)) (pe_ix ix_tup (pv 0) pe_int (fun _ _ => rfl))))
    (pa_cons (pe_op op_mulW (pe_ix ix_tup (pv 0) pe_int (fun _ _ => rfl)) (pe_ix ix_tup (pv 1) pe_int (fun _ _ => rfl))) pa_nil)))), ?_⟩
  refine ⟨_, rfl, a, fr p, 0, _, rfl, rfl, hp, at0 p, _, rfl, b, fr q, 1, _, rfl, rfl, hq, at1 q, _, _, rfl, rfl, mulOk zp.top (sz_den zq), ?_⟩
  refine ⟨_, rfl, b, fr q, 0, _, rfl, rfl, hq, at0 q, _, rfl, a, fr p, 1, _, rfl, rfl, hp, at1 p, _, _, rfl, rfl, mulOk zq.top (sz_den zp), _, _, rfl, rfl, ?_⟩
  refine ⟨_, rfl, a, fr p, 1, _, rfl, rfl, hp, at1 p, _, rfl, b, fr q, 1, _, rfl, rfl, hq, at1 q, _, _, rfl, rfl, mulOk (sz_den zp) (sz_den zq), ?_⟩
  refine ⟨_, _, rfl, fun _ => ⟨dens_lt zp zq, ?_⟩, fun z => absurd z (dens_ne p q)⟩
  rw [add_val]
  exact k
theorem ok_minus {f : Addr} {fd : FuncData} (F : Fun K "minus" "minus" sMinus f fd) : FnOk P w K mg base CX0 4 f fd ["one", "other"] (spBin K (· - ·)) := by
  refine F.ok scMinus (fun vs H Q E h => ?_) (fun cdv A outer s H vs Q E hr h => ?_)
  · obtain ⟨a, b, p, q, rfl, _⟩ := h
    rfl
  obtain ⟨a, b, p, q, rfl, hp, hq, zp, zq, k⟩ := h
  refine ⟨_, pss_one (ps_ret (pe_call (quiet GF) hr rfl mF kF bF .nil pass0 (pa_cons (pe_op op_sub (pe_op op_mulW (pe_ix ix_tup (pv 0) pe_int (fun _ _ => rfl)) (pe_ix ix_tup (pv 1) pe_int (fun _ _ => rfl))) (pe_op op_mulW (pe_ix ix_tup (pv 1) pe_int (fun _ _ => rfl)) (pe_ix ix_tup (pv 0) pe_int (fun _ _ => rfl))))
    (pa_cons (pe_op op_mulW (pe_ix ix_tup (pv 0) pe_int (fun _ _ => rfl)) (pe_ix ix_tup (pv 1) pe_int (fun _ _ => rfl))) pa_nil)))), ?_⟩
  refine ⟨_, rfl, a, fr p, 0, _, rfl, rfl, hp, at0 p, _, rfl, b, fr q, 1, _, rfl, rfl, hq, at1 q, _, _, rfl, rfl, mulOk zp.top (sz_den zq), ?_⟩
  refine ⟨_, rfl, b, fr q, 0, _, rfl, rfl, hq, at0 q, _, rfl, a, fr p, 1, _, rfl, rfl, hp, at1 p, _, _, rfl, rfl, mulOk zq.top (sz_den zp), _, _, rfl, rfl, ?_⟩
  refine ⟨_, rfl, a, fr p, 1, _, rfl, rfl, hp, at1 p, _, rfl, b, fr q, 1, _, rfl, rfl, hq, at1 q, _, _, rfl, rfl, mulOk (sz_den zp) (sz_den zq), ?_⟩
  refine ⟨_, _, rfl, fun _ => ⟨dens_lt zp zq, ?_⟩, fun z => absurd z (dens_ne p q)⟩
  rw [sub_val]
  exact k
theorem ok_times {f : Addr} {fd : FuncData} (F : Fun K "times" "times" sTimes f fd) : FnOk P w K mg base CX0 4 f fd ["one", "other"] (spBin K (· * ·)) := by
  refine F.ok scTimes (fun vs H Q E h => ?_) (fun cdv A outer s H vs Q E hr h => ?_)
  · obtain ⟨a, b, p, q, rfl, _⟩ := h
    rfl
  obtain ⟨a, b, p, q, rfl, hp, hq, zp, zq, k⟩ := h
  refine ⟨_, pss_one (ps_ret (pe_call (quiet GF) hr rfl mF kF bF .nil pass0 (pa_cons (pe_op op_mulW (pe_ix ix_tup (pv 0) pe_int (fun _ _ => rfl)) (pe_ix ix_tup (pv 1) pe_int (fun _ _ => rfl)))
    (pa_cons (pe_op op_mulW (pe_ix ix_tup (pv 0) pe_int (fun _ _ => rfl)) (pe_ix ix_tup (pv 1) pe_int (fun _ _ => rfl))) pa_nil)))), ?_⟩
  refine ⟨_, rfl, a, fr p, 0, _, rfl, rfl, hp, at0 p, _, rfl, b, fr q, 0, _, rfl, rfl, hq, at0 q, _, _, rfl, rfl, mulOk zp.top zq.top, ?_⟩
  refine ⟨_, rfl, a, fr p, 1, _, rfl, rfl, hp, at1 p, _, rfl, b, fr q, 1, _, rfl, rfl, hq, at1 q, _, _, rfl, rfl, mulOk (sz_den zp) (sz_den zq), ?_⟩
  refine ⟨_, _, rfl, fun _ => ⟨dens_lt zp zq, ?_⟩, fun z => absurd z (dens_ne p q)⟩
  rw [mul_val]
  exact k
theorem ok_over {f : Addr} {fd : FuncData} (F : Fun K "over" "over" sOver f fd) : FnOk P w K mg base (L2.CX P w) 4 f fd ["one", "other"] (spOver K C) := by
  refine F.okX scOver (fun vs H Q E h => ?_) (fun cdv A outer s H vs Q E hr h => ?_)
  · obtain ⟨a, b, p, q, rfl, _⟩ := h
    rfl
  obtain ⟨a, b, p, q, rfl, hp, hq, zp, zq, k1, k2⟩ := h
  refine ⟨_, pss_one (ps_ret (pe_callS GF hr rfl mF kF bF (fun σ => passAt (takes_of rfl rfl rfl rfl) σ) (pa_cons (pe_op op_mulW (pe_ix ix_tup (pv 0) pe_int (fun _ _ => rfl)) (pe_ix ix_tup (pv 1) pe_int (fun _ _ => rfl)))
    (pa_cons (pe_op op_mulW (pe_ix ix_tup (pv 0) pe_int (fun _ _ => rfl)) (pe_ix ix_tup (pv 1) pe_int (fun _ _ => rfl))) pa_nil)))), ?_⟩
  refine ⟨_, rfl, a, fr p, 0, _, rfl, rfl, hp, at0 p, _, rfl, b, fr q, 1, _, rfl, rfl, hq, at1 q, _, _, rfl, rfl, mulOk zp.top (sz_den zq), ?_⟩
  refine ⟨_, rfl, a, fr p, 1, _, rfl, rfl, hp, at1 p, _, rfl, b, fr q, 0, _, rfl, rfl, hq, at0 q, _, _, rfl, rfl, mulOk (sz_den zp) zq.top, ?_⟩
  refine ⟨_, _, rfl, fun nz => ⟨?_, ?_⟩, fun z => ?_⟩
  · exact Nat.lt_of_lt_of_le (lt_mulI (sz_den zp) zq.top) (Nat.pow_le_pow_right (by decide) (by decide))
  · rw [div_val]
    refine k1 fun e => nz ?_
    rw [e]
    simp
  · refine k2 (Rat.num_eq_zero.mp ?_)
    rcases Int.mul_eq_zero.mp z with z | z
    · exact absurd z (den_ne p)
    · exact z
omit GF mF kF bF
theorem ok_compared {f : Addr} {fd : FuncData} (F : Fun K "compared" "compared" sCompared f fd) (noInt : mg "int" = none) : FnOk P w K mg base CX0 1 f fd ["one", "other"] (spCmp K) := by
  refine F.ok scCompared (fun vs H Q E h => ?_) (fun cdv A outer s H vs Q E hr h => ?_)
  · obtain ⟨a, b, p, q, rfl, _⟩ := h
    rfl
  obtain ⟨a, b, p, q, rfl, hp, hq, zp, zq, k⟩ := h
  refine ⟨_, pss_cons (ps_par (i := 2) (j := 3) rfl scCompared.nd rfl rfl (by decide) rfl rfl (pa_cons (pe_op op_mulW (pe_ix ix_tup (pv 0) pe_int (fun _ _ => rfl)) (pe_ix ix_tup (pv 1) pe_int (fun _ _ => rfl))) (pa_cons (pe_op op_mulW (pe_ix ix_tup (pv 1) pe_int (fun _ _ => rfl)) (pe_ix ix_tup (pv 0) pe_int (fun _ _ => rfl))) pa_nil)) (by rfl))
    (pss_one (ps_ret (pe_op op_sub (pe_callTy call_int1 (by rfl) noInt (by decide +kernel) (pa_cons (pe_cmpR op_gt (pv 2) (pv 3) (nomark _)) pa_nil)) (pe_callTy call_int1 (by rfl) noInt (by decide +kernel) (pa_cons (pe_cmpR op_lt (pv 2) (pv 3) (nomark _)) pa_nil))))), ?_⟩
  refine ⟨_, rfl, a, fr p, 0, _, rfl, rfl, hp, at0 p, _, rfl, b, fr q, 1, _, rfl, rfl, hq, at1 q, _, _, rfl, rfl, mulOk zp.top (sz_den zq), ?_⟩
  refine ⟨_, rfl, b, fr q, 0, _, rfl, rfl, hq, at0 q, _, rfl, a, fr p, 1, _, rfl, rfl, hp, at1 p, _, _, rfl, rfl, mulOk zq.top (sz_den zp), ?_⟩
  refine ⟨_, _, rfl, ?_⟩
  refine ⟨_, rfl, _, rfl, _, _, rfl, rfl, .inr ⟨_, rfl, ?_⟩⟩
  refine ⟨_, rfl, _, rfl, _, _, rfl, rfl, .inr ⟨_, rfl, ?_⟩⟩
  refine ⟨_, _, rfl, rfl, ?_⟩
  have e : cmpR p q = (if decide (p.num * (q.den : Int) > q.num * (p.den : Int)) = true then (1 : Int) else 0) - (if decide (p.num * (q.den : Int) < q.num * (p.den : Int)) = true then (1 : Int) else 0) := by
    unfold cmpR cmpI
    simp only [decide_eq_true_eq]
  rw [e] at k
  exact k
theorem ok_sign {f fC Z : Addr} {fd fdC : FuncData} (F : Fun K "sign_of" "sign_of" sSign f fd) (GC : FnOk P w K mg base CX0 1 fC fdC ["one", "other"] (spCmp K)) (mC : mg "compared" = some (.ref fC)) (kC : PySem.W.keepIn K (.ref fC) = true) (bC : Binds K fdC ["one", "other"] [])
    (mZ : mg "ZERO" = some (.ref Z)) (hZ : ∀ H, Fr K H Z 0) : FnOk P w K mg base CX0 2 f fd ["one"] (spSign K) := by
  refine F.ok scSign (fun vs H Q E h => ?_) (fun cdv A outer s H vs Q E hr h => ?_)
  · obtain ⟨a, p, rfl, _⟩ := h
    rfl
  obtain ⟨a, p, rfl, hp, zp, k⟩ := h
  refine ⟨_, pss_one (ps_ret (pe_call GC hr rfl mC kC bC .nil pass0 (pa_cons (pv 0) (pa_cons (pe_glob (by rfl) mZ (show RelV (.ref Z) (.ref Z) from rfl)) pa_nil)))), ?_⟩
  refine ⟨_, rfl, a, Z, p, 0, rfl, hp, hZ _, zp, ⟨?_, ?_⟩, k⟩
  · show (0 : Int).natAbs < 2 ^ 3000
    exact Nat.pow_pos (by decide)
  · show 1 < 2 ^ 3000
    exact Nat.one_lt_two_pow (by decide)
end
end
end K02

set_option Elab.async false
set_option linter.all false
set_option maxRecDepth 100000
set_option maxHeartbeats 4000000
namespace K02
open PySem PySem.Spec PyProof.Rows L2 Wb Wf
abbrev sTotal : Stmt := topS 15
abbrev sLeast : Stmt := topS 17
abbrev sGreatest : Stmt := topS 18
abbrev sOuter : Stmt := topS 19
theorem ip_mulW {X : Cx} : PIp X .Mult (fun x y H Q => ∃ i j : Int, x = .int i ∧ y = .int j ∧ CMulW i j ∧ Q (.int (i * j)) H) := by
  intro pins s σ H x y v u Q I r1 r2 h
  obtain ⟨i, j, e1, e2, c, q⟩ := h
  subst e1; subst e2
  obtain ⟨t, rfl⟩ := r1
  obtain ⟨t', rfl⟩ := r2
  exact imul_int ⟨.int _, H, I.tok _, ⟨_, rfl⟩, q⟩ c.ok
/-- a row of fractions -/
def Frs (K : PySem.W.Frag) (H : Hp) : List V → List Rat → Prop
  | [], [] => True
  | x :: xs, q :: qs => (∃ a, x = .ref a ∧ Fr K H a q) ∧ Frs K H xs qs
  | _, _ => False
theorem Frs.same {K : PySem.W.Frag} {H H' : Hp} (s : Same H H') : ∀ {xs : List V} {qs : List Rat}, Frs K H xs qs → Frs K H' xs qs
  | [], [], _ => True.intro
  | x :: xs, q :: qs, ⟨⟨a, e, h⟩, t⟩ => ⟨⟨a, e, h.same s⟩, Frs.same s t⟩
theorem Frs.len {K : PySem.W.Frag} {H : Hp} : ∀ {xs : List V} {qs : List Rat}, Frs K H xs qs → xs.length = qs.length
  | [], [], _ => rfl
  | x :: xs, q :: qs, ⟨_, t⟩ => congrArg (· + 1) (Frs.len t)
theorem Frs.at_ {K : PySem.W.Frag} {H : Hp} : ∀ {xs : List V} {qs : List Rat} {i : Nat} {x : V}, Frs K H xs qs → xs[i]? = some x → ∃ q a, qs[i]? = some q ∧ x = .ref a ∧ Fr K H a q
  | x :: xs, q :: qs, 0, _, ⟨⟨a, e, h⟩, _⟩, z => ⟨q, a, rfl, (Option.some.inj z).symm.trans e, h⟩
  | x :: xs, q :: qs, i + 1, _, ⟨_, t⟩, z => Frs.at_ (xs := xs) (qs := qs) (i := i) t z
theorem Frs.snoc {K : PySem.W.Frag} {H : Hp} {a : Addr} {q : Rat} (h : Fr K H a q) : ∀ {xs : List V} {qs : List Rat}, Frs K H xs qs → Frs K H (xs ++ [.ref a]) (qs ++ [q])
  | [], [], _ => ⟨⟨a, rfl, h⟩, True.intro⟩
  | x :: xs, p :: qs, ⟨e, t⟩ => ⟨e, Frs.snoc h t⟩
theorem Frs.take {K : PySem.W.Frag} {H : Hp} : ∀ {xs : List V} {qs : List Rat} (n : Nat), Frs K H xs qs → Frs K H (xs.take n) (qs.take n)
  | _, _, 0, _ => by rw [List.take_zero, List.take_zero]; exact True.intro
  | [], [], n + 1, _ => True.intro
  | x :: xs, q :: qs, n + 1, ⟨e, t⟩ => ⟨e, Frs.take n t⟩
def SqE (K : PySem.W.Frag) (H : Hp) (a : Addr) (xs : List V) : Prop := SqL K H a xs ∨ SqT K H a xs
/-- a row of not too many fractions, not too long -/
def Some_ (K : PySem.W.Frag) (H : Hp) (a : Addr) (xs : List V) (qs : List Rat) : Prop := SqE K H a xs ∧ Frs K H xs qs ∧ qs.length ≤ 13 ∧ ∀ q ∈ qs, Sz 200 q
def spTotal (K : PySem.W.Frag) : Sp := fun vs H Q _ => ∃ (a : Addr) (xs : List V) (qs : List Rat), vs = [.ref a] ∧ Some_ K H a xs qs ∧ ∀ r H', Same H H' → Fr K H' r (sumR qs) → Q (.ref r) H'
def spProduct (K : PySem.W.Frag) : Sp := fun vs H Q _ => ∃ (a : Addr) (xs : List V) (qs : List Rat), vs = [.ref a] ∧ Some_ K H a xs qs ∧ ∀ r H', Same H H' → Fr K H' r (prodR qs) → Q (.ref r) H'
/-- the outermost one of a row -/
def Best (K : PySem.W.Frag) (H : Hp) (side : Int) (xs : List V) (qs : List Rat) (n : Nat) (a : Addr) (q : Rat) : Prop := Fr K H a q ∧ (∃ i : Nat, xs[i]? = some (V.ref a) ∧ qs[i]? = some q) ∧ ∀ (j : Nat) (p : Rat), j < n → qs[j]? = some p → cmpR p q ≠ side
def spOuter (K : PySem.W.Frag) (CS : Addr) : Sp := fun vs H Q E => ∃ (a : Addr) (side : Int) (xs : List V) (qs : List Rat), vs = [.ref a, .int side] ∧ (side = 1 ∨ side = -1) ∧ Some_ K H a xs qs ∧
  (qs ≠ [] → ∀ b q, Best K H side xs qs qs.length b q → Q (.ref b) H) ∧ (qs = [] → ∀ dx, H dx = none → E (.ref CS) (some dx) (upd H dx (.xd [("word", .str "some")])))
def spEdge (K : PySem.W.Frag) (CS : Addr) (side : Int) : Sp := fun vs H Q E => ∃ (a : Addr) (xs : List V) (qs : List Rat), vs = [.ref a] ∧ Some_ K H a xs qs ∧
  (qs ≠ [] → ∀ b q, Best K H side xs qs qs.length b q → Q (.ref b) H) ∧ (qs = [] → ∀ dx, H dx = none → E (.ref CS) (some dx) (upd H dx (.xd [("word", .str "some")])))
theorem edge_step {side : Int} (hs : side = 1 ∨ side = -1) {p q r : Rat} (h1 : cmpR p q ≠ side) (h2 : cmpR r q = side) : cmpR p r ≠ side := by
  rw [cmpR_eq] at *
  rcases hs with rfl | rfl
  · have a : q < r := by
      by_cases z : q < r
      · exact z
      · rw [if_neg z] at h2
        split at h2 <;> omega
    have b : ¬ q < p := fun z => h1 (if_pos z)
    have c : ¬ r < p := fun z => b (by grind)
    rw [if_neg c]
    split <;> omega
  · have a : r < q := by
      by_cases z : q < r
      · rw [if_pos z] at h2
        omega
      · rw [if_neg z] at h2
        by_cases y : r < q
        · exact y
        · rw [if_neg y] at h2
          omega
    have b : ¬ p < q := fun z => h1 (by rw [if_neg (by grind), if_pos z])
    have c : ¬ p < r := fun z => b (by grind)
    by_cases d : r < p
    · rw [if_pos d]
      omega
    · rw [if_neg d, if_neg c]
      omega
theorem cmp_self (q : Rat) : cmpR q q = 0 := by
  rw [cmpR_eq, if_neg Rat.lt_irrefl, if_neg Rat.lt_irrefl]
theorem pow200 {i : Nat} (h : i ≤ 13) : (2 : Nat) ^ (200 * i) ≤ 2 ^ 2600 := Nat.pow_le_pow_right (by decide) (by omega)
section
variable {P : Program} {w : World} {K : PySem.W.Frag} {mg : Str → Option Value} {base : Heap} {C fI : Addr} {fdI : FuncData}
theorem scTotal : FnScope ["some", "bottom", "one"] ["some"] (defScope sTotal) := ⟨rfl, rfl, rfl, by decide +kernel, rfl, by decide +kernel, by decide +kernel⟩
theorem scOuter : FnScope ["some", "side", "best", "one"] ["some", "side"] (defScope sOuter) := ⟨rfl, rfl, rfl, by decide +kernel, rfl, by decide +kernel, by decide +kernel⟩
theorem scLeast : FnScope ["some"] ["some"] (defScope sLeast) := ⟨rfl, rfl, rfl, by decide +kernel, rfl, by decide +kernel, by decide +kernel⟩
theorem scGreatest : FnScope ["some"] ["some"] (defScope sGreatest) := ⟨rfl, rfl, rfl, by decide +kernel, rfl, by decide +kernel, by decide +kernel⟩
section
variable {fF : Addr} {fdF : FuncData} (GF : FnOk P w K mg base (L2.CX P w) 3 fF fdF ["top", "bottom"] (spFrac C)) (mF : mg "fraction" = some (.ref fF)) (kF : PySem.W.keepIn K (.ref fF) = true) (bF : Binds K fdF ["top", "bottom"] [])
include GF mF kF bF
theorem ok_total {f : Addr} {fd : FuncData} (F : Fun K "total_of" "total_of" sTotal f fd) (mgL : mg "lcm" = some (.builtin "math.lcm")) (noSum : mg "sum" = none) : FnOk P w K mg base CX0 4 f fd ["some"] (spTotal K) := by
  refine F.ok scTotal (fun vs H Q E h => ?_) (fun cdv A outer s H vs Q E hr h => ?_)
  · obtain ⟨a, xs, qs, rfl, _⟩ := h
    rfl
  obtain ⟨a, xs, qs, rfl, ⟨hs, hf, few, sz⟩, k⟩ := h
  have ln := hf.len
  rcases hs with hs | hs
  · refine ⟨_, pss_cons (ps_set (i := 1) scTotal.nd rfl (Or.inr rfl) pe_int)
      (pss_cons (ps_for PassesOwn.never rfl (pi_list (pv 0)) (pg_name (i := 2) scTotal.nd rfl (Or.inl rfl))
        (pss_one (ps_set (i := 1) scTotal.nd rfl (Or.inr rfl) (pe_callBfun cr_lcm rfl mgL (pa_cons (pv 1) (pa_cons (pe_ix ix_tup (pv 2) pe_int (fun _ _ => rfl)) pa_nil))))))
      (pss_one (ps_ret (pe_call (quiet GF) hr rfl mF kF bF .nil pass0 (pa_cons (pe_callB (cr_sum rfl) (by rfl) noSum (by decide +kernel) (pa_cons (pe_lc (own := [("one", 2)]) (g := gName 2) (tt := tYes) rfl scTotal.nd (pi_list (pv 0))
          (blkOk_by (own := [("one", 2)]) (N := ["some", "bottom", "one"]) (sc := defScope sTotal) (by decide +kernel)) (fun _ _ _ _ _ => pg_name (i := 2) scTotal.nd rfl (Or.inl rfl)) (fun _ _ _ _ _ => pts_nil)
          (fun _ _ _ _ _ => pe_op op_mulW (pe_ix (r := rIxT K) ix_tup (pv 2) pe_int (fun _ _ => rfl)) (pe_op op_fdivW (pv 1) (pe_ix (r := rIxT K) ix_tup (pv 2) pe_int (fun _ _ => rfl))))) pa_nil))
        (pa_cons (pv 1) pa_nil)))))), ?_⟩
    -- the common bottom
    refine ⟨_, rfl, a, rfl, ⟨_, hs⟩, for_list (K := K) (a := a) (xs := xs) (fun i σ G => ∃ (L : Nat) (v : Option V), σ = [some (.ref a), some (.int (L : Int)), v] ∧ G = H ∧ 0 < L ∧ L < 2 ^ (200 * i + 1) ∧ ∀ j q, j < i → qs[j]? = some q → q.den ∣ L)
      ⟨1, none, rfl, rfl, by decide, by decide, fun j q z => absurd z (Nat.not_lt_zero _)⟩ (fun i σ G _ ⟨_, _, _, e, _⟩ => by rw [e]; exact hs) ?_ ?_⟩
    · rintro i x σ G hx ⟨L, v, rfl, rfl, l0, l1, ld⟩
      obtain ⟨q, b, hq, rfl, hb⟩ := hf.at_ hx
      have hi : i < qs.length := (List.getElem?_eq_some_iff.mp hq).1
      have zq := sz q (List.mem_of_getElem? hq)
      refine ⟨_, rfl, _, rfl, b, fr q, 1, _, rfl, rfl, hb, at1 q, _, _, rfl, ?_, ?_, ?_⟩
      · rw [Int.natAbs_natCast]
        exact Nat.lt_of_lt_of_le l1 (Nat.pow_le_pow_right (by decide) (by omega))
      · rw [Int.natAbs_natCast]
        exact Nat.lt_of_lt_of_le zq.bot (Nat.pow_le_pow_right (by decide) (by decide))
      · rw [Int.natAbs_natCast, Int.natAbs_natCast]
        obtain ⟨s0, s1, s2, s3⟩ := lcm_step l0 l1 zq.bot
        refine ⟨_, _, rfl, rfl, s0, ?_, ?_⟩
        · have e : 200 * (i + 1) + 1 = 200 * i + 1 + 200 := by omega
          rw [e]
          exact s1
        · intro j p hj hp
          by_cases z : j = i
          · subst z
            rw [hq] at hp
            cases hp
            exact s2
          · exact Nat.dvd_trans (ld j p (by omega) hp) s3
    rintro σ G ⟨L, v, rfl, rfl, l0, l1, ld⟩
    rw [ln] at l1 ld
    have dv : ∀ q ∈ qs, ((q.den : Nat) : Int) ∣ (L : Int) := fun q hq => by
      obtain ⟨j, hj⟩ := List.mem_iff_getElem?.mp hq
      exact Int.natCast_dvd_natCast.mpr (ld j q (List.getElem?_eq_some_iff.mp hj).1 hj)
    have L0 : (L : Int) ≠ 0 := by omega
    have big : L < 2 ^ 2601 := Nat.lt_of_lt_of_le l1 (Nat.pow_le_pow_right (by decide) (by omega))
    -- the parts
    refine ⟨_, rfl, a, rfl, ⟨_, hs⟩, fun D hD => ?_⟩
    refine lc_list (K := K) (a := a) (xs := xs) (fun i J => J D = some (.lst (((qs.take i).map fun q => q.num * ((L : Int) / q.den)).map V.int)) ∧ Same G J) ⟨by rw [List.take_zero]; exact upd_same, new_same hD⟩ (fun i J _ q => q.2.seq hs) ?_ ?_
    · rintro i x J hx ⟨hJ, sJ⟩
      obtain ⟨q, b, hq, rfl, hb⟩ := hf.at_ hx
      have hi : i < qs.length := (List.getElem?_eq_some_iff.mp hq).1
      have zq := sz q (List.mem_of_getElem? hq)
      have hb' : Fr K J b q := hb.same sJ
      have dp : (0 : Int) < q.den := by
        have := q.den_pos
        omega
      refine ⟨rfl, ?_⟩
      refine ⟨_, rfl, b, fr q, 0, _, rfl, rfl, hb', at0 q, _, rfl, _, rfl, b, fr q, 1, _, rfl, rfl, hb', at1 q, _, _, rfl, rfl, ?_, _, _, rfl, rfl, ?_, _, hJ, ?_, ?_, ?_⟩
      · exact wide_div (b := 200) dp (sz_den zq) (by decide) (by decide)
      · refine wide_mul (a := 200) (b := 2601) zq.top ?_ (by decide) (by decide) (by decide)
        refine wide_le (Int.ediv_nonneg (by omega) (by omega)) (Int.ediv_le_self _ (by omega)) ?_
        rw [Int.natAbs_natCast]
        exact big
      · rw [List.length_map, List.length_map, List.length_take, sizeLine_eq]
        omega
      · rw [upd_same, List.take_succ, hq]
        simp
      · intro c o e
        rw [upd_ne (ne_of_none e hD)]
        exact sJ c o e
    rintro J ⟨hJ, sJ⟩
    rw [ln, List.take_length] at hJ
    refine ⟨D, _, rfl, SqL.of hJ, _, rfl, _, _, rfl, fun _ => ⟨?_, ?_⟩, fun z => absurd z L0⟩
    · rw [Int.natAbs_natCast]
      exact Nat.lt_of_lt_of_le big (Nat.pow_le_pow_right (by decide) (by decide))
    · rw [← sumTop_eq, sum_parts L0 qs dv]
      exact fun r hr => k r _ (sJ.trans (new_same hr)) Fr.new
  · refine ⟨_, pss_cons (ps_set (i := 1) scTotal.nd rfl (Or.inr rfl) pe_int)
      (pss_cons (ps_for PassesOwn.never rfl (pi_tup (pv 0)) (pg_name (i := 2) scTotal.nd rfl (Or.inl rfl))
        (pss_one (ps_set (i := 1) scTotal.nd rfl (Or.inr rfl) (pe_callBfun cr_lcm rfl mgL (pa_cons (pv 1) (pa_cons (pe_ix ix_tup (pv 2) pe_int (fun _ _ => rfl)) pa_nil))))))
      (pss_one (ps_ret (pe_call (quiet GF) hr rfl mF kF bF .nil pass0 (pa_cons (pe_callB (cr_sum rfl) (by rfl) noSum (by decide +kernel) (pa_cons (pe_lc (own := [("one", 2)]) (g := gName 2) (tt := tYes) rfl scTotal.nd (pi_tup (pv 0))
          (blkOk_by (own := [("one", 2)]) (N := ["some", "bottom", "one"]) (sc := defScope sTotal) (by decide +kernel)) (fun _ _ _ _ _ => pg_name (i := 2) scTotal.nd rfl (Or.inl rfl)) (fun _ _ _ _ _ => pts_nil)
          (fun _ _ _ _ _ => pe_op op_mulW (pe_ix (r := rIxT K) ix_tup (pv 2) pe_int (fun _ _ => rfl)) (pe_op op_fdivW (pv 1) (pe_ix (r := rIxT K) ix_tup (pv 2) pe_int (fun _ _ => rfl))))) pa_nil))
        (pa_cons (pv 1) pa_nil)))))), ?_⟩
    -- the common bottom
    refine ⟨_, rfl, a, rfl, ⟨_, hs⟩, for_tup (K := K) (a := a) (xs := xs) (fun i σ G => ∃ (L : Nat) (v : Option V), σ = [some (.ref a), some (.int (L : Int)), v] ∧ G = H ∧ 0 < L ∧ L < 2 ^ (200 * i + 1) ∧ ∀ j q, j < i → qs[j]? = some q → q.den ∣ L)
      ⟨1, none, rfl, rfl, by decide, by decide, fun j q z => absurd z (Nat.not_lt_zero _)⟩ (fun i σ G _ ⟨_, _, _, e, _⟩ => by rw [e]; exact hs) ?_ ?_⟩
    · rintro i x σ G hx ⟨L, v, rfl, rfl, l0, l1, ld⟩
      obtain ⟨q, b, hq, rfl, hb⟩ := hf.at_ hx
      have hi : i < qs.length := (List.getElem?_eq_some_iff.mp hq).1
      have zq := sz q (List.mem_of_getElem? hq)
      refine ⟨_, rfl, _, rfl, b, fr q, 1, _, rfl, rfl, hb, at1 q, _, _, rfl, ?_, ?_, ?_⟩
      · rw [Int.natAbs_natCast]
        exact Nat.lt_of_lt_of_le l1 (Nat.pow_le_pow_right (by decide) (by omega))
      · rw [Int.natAbs_natCast]
        exact Nat.lt_of_lt_of_le zq.bot (Nat.pow_le_pow_right (by decide) (by decide))
      · rw [Int.natAbs_natCast, Int.natAbs_natCast]
        obtain ⟨s0, s1, s2, s3⟩ := lcm_step l0 l1 zq.bot
        refine ⟨_, _, rfl, rfl, s0, ?_, ?_⟩
        · have e : 200 * (i + 1) + 1 = 200 * i + 1 + 200 := by omega
          rw [e]
          exact s1
        · intro j p hj hp
          by_cases z : j = i
          · subst z
            rw [hq] at hp
            cases hp
            exact s2
          · exact Nat.dvd_trans (ld j p (by omega) hp) s3
    rintro σ G ⟨L, v, rfl, rfl, l0, l1, ld⟩
    rw [ln] at l1 ld
    have dv : ∀ q ∈ qs, ((q.den : Nat) : Int) ∣ (L : Int) := fun q hq => by
      obtain ⟨j, hj⟩ := List.mem_iff_getElem?.mp hq
      exact Int.natCast_dvd_natCast.mpr (ld j q (List.getElem?_eq_some_iff.mp hj).1 hj)
    have L0 : (L : Int) ≠ 0 := by omega
    have big : L < 2 ^ 2601 := Nat.lt_of_lt_of_le l1 (Nat.pow_le_pow_right (by decide) (by omega))
    -- the parts
    refine ⟨_, rfl, a, rfl, ⟨_, hs⟩, fun D hD => ?_⟩
    refine lc_tup (K := K) (a := a) (xs := xs) (fun i J => J D = some (.lst (((qs.take i).map fun q => q.num * ((L : Int) / q.den)).map V.int)) ∧ Same G J) ⟨by rw [List.take_zero]; exact upd_same, new_same hD⟩ (fun i J _ q => seqT q.2 hs) ?_ ?_
    · rintro i x J hx ⟨hJ, sJ⟩
      obtain ⟨q, b, hq, rfl, hb⟩ := hf.at_ hx
      have hi : i < qs.length := (List.getElem?_eq_some_iff.mp hq).1
      have zq := sz q (List.mem_of_getElem? hq)
      have hb' : Fr K J b q := hb.same sJ
      have dp : (0 : Int) < q.den := by
        have := q.den_pos
        omega
      refine ⟨rfl, ?_⟩
      refine ⟨_, rfl, b, fr q, 0, _, rfl, rfl, hb', at0 q, _, rfl, _, rfl, b, fr q, 1, _, rfl, rfl, hb', at1 q, _, _, rfl, rfl, ?_, _, _, rfl, rfl, ?_, _, hJ, ?_, ?_, ?_⟩
      · exact wide_div (b := 200) dp (sz_den zq) (by decide) (by decide)
      · refine wide_mul (a := 200) (b := 2601) zq.top ?_ (by decide) (by decide) (by decide)
        refine wide_le (Int.ediv_nonneg (by omega) (by omega)) (Int.ediv_le_self _ (by omega)) ?_
        rw [Int.natAbs_natCast]
        exact big
      · rw [List.length_map, List.length_map, List.length_take, sizeLine_eq]
        omega
      · rw [upd_same, List.take_succ, hq]
        simp
      · intro c o e
        rw [upd_ne (ne_of_none e hD)]
        exact sJ c o e
    rintro J ⟨hJ, sJ⟩
    rw [ln, List.take_length] at hJ
    refine ⟨D, _, rfl, SqL.of hJ, _, rfl, _, _, rfl, fun _ => ⟨?_, ?_⟩, fun z => absurd z L0⟩
    · rw [Int.natAbs_natCast]
      exact Nat.lt_of_lt_of_le big (Nat.pow_le_pow_right (by decide) (by decide))
    · rw [← sumTop_eq, sum_parts L0 qs dv]
      exact fun r hr => k r _ (sJ.trans (new_same hr)) Fr.new
omit GF mF kF bF
theorem ok_outer {f fC : Addr} {fd fdC : FuncData} (F : Fun K "outermost" "outermost" sOuter f fd) (k : KitS K mg C fI fdI) (GC : FnOk P w K mg base CX0 1 fC fdC ["one", "other"] (spCmp K)) (mC : mg "compared" = some (.ref fC)) (kC : PySem.W.keepIn K (.ref fC) = true)
    (bC : Binds K fdC ["one", "other"] []) (noLen : mg "len" = none) : FnOk P w K mg base (L2.CX P w) 3 f fd ["some", "side"] (spOuter K C) := by
  refine F.okX scOuter (fun vs H Q E h => ?_) (fun cdv A outer s H vs Q E hr h => ?_)
  · obtain ⟨a, side, xs, qs, rfl, _⟩ := h
    rfl
  obtain ⟨a, side, xs, qs, rfl, hside, ⟨hs, hf, few, sz⟩, k1, k2⟩ := h
  have ln := hf.len
  have G : FnOk P w K mg base CX0 1 fI fdI ["self", "word"] (spIni C "word") := ok_ini k
  have hr1 : Room 1 _ := hr.mono (by decide)
  rcases hs with hs | hs
  · refine ⟨_, pss_cons (ps_if (pt_cmpR op_eq (pe_callB call_len (by rfl) noLen (by decide +kernel) (pa_cons (pv 0) pa_nil)) pe_int (nomark _)) (pss_one (ps_raise rfl (takes_of rfl rfl rfl rfl) (pmk_err k.T k.iC k.tI G hr k.b pass0 rfl k.mgC (pa_cons pe_str pa_nil)))) pss_nil)
      (pss_cons (ps_set (i := 2) scOuter.nd rfl (Or.inl rfl) (pe_ix ix_list (pv 0) pe_int (fun _ _ => rfl)))
      (pss_cons (ps_for (PassesOwn.leaving) rfl (pi_list (pv 0)) (pg_name (i := 3) scOuter.nd rfl (Or.inl rfl))
        (pss_one (ps_if (pt_cmpR op_eq (pe_call GC hr1 rfl mC kC bC .nil pass0 (pa_cons (pv 3) (pa_cons (pv 2) pa_nil))) (pv 1) (nomark _)) (pss_one (ps_set (i := 2) scOuter.nd rfl (Or.inl rfl) (pv 3))) pss_nil)))
      (pss_one (ps_ret (pv 2))))), ?_⟩
    refine ⟨_, rfl, _, xs.length, rfl, .inl ⟨xs, hs, rfl⟩, rfl, _, rfl, ?_⟩
    refine ite2 (fun h => ?_) (fun h => ?_)
    · have e : (xs.length : Int) = 0 := V.int.inj (of_decide_eq_true h)
      have z : qs = [] := List.eq_nil_of_length_eq_zero (by omega)
      exact ⟨.str "some", rfl, k2 z⟩
    have ne : qs ≠ [] := fun z => h (decide_eq_true (by rw [ln, z]; rfl))
    have pos : 0 < xs.length := by
      rw [ln]
      exact List.length_pos_iff.mpr ne
    have k1 := k1 ne
    clear h k2
    obtain ⟨x0, hx0⟩ : ∃ x0, xs[0]? = some x0 := ⟨_, List.getElem?_eq_getElem pos⟩
    obtain ⟨q0, a0, hq0, rfl, hf0⟩ := hf.at_ hx0
    refine ⟨_, rfl, a, xs, 0, .ref a0, rfl, rfl, hs, atI_nat hx0, ?_⟩
    have zz : ∀ {i : Nat} {q : Rat}, qs[i]? = some q → Sz 3000 q := fun h => (sz _ (List.mem_of_getElem? h)).mono (by decide)
    refine ⟨_, rfl, a, rfl, ⟨_, hs⟩, for_list (K := K) (a := a) (xs := xs) (fun i σ J => ∃ (b : Addr) (q : Rat) (v : Option V), σ = [some (.ref a), some (.int side), some (.ref b), v] ∧ J = H ∧ Best K H side xs qs i b q)
      ⟨a0, q0, none, rfl, rfl, hf0, ⟨0, hx0, hq0⟩, fun j p z => absurd z (Nat.not_lt_zero _)⟩ (fun i σ J _ ⟨_, _, _, _, e, _⟩ => by rw [e]; exact hs) ?_ ?_⟩
    · rintro i x σ J hx ⟨b, q, v, rfl, rfl, hb, ⟨m, hm, hmq⟩, far⟩
      obtain ⟨p, c, hp, rfl, hc⟩ := hf.at_ hx
      refine ⟨_, rfl, _, rfl, c, b, p, q, rfl, hc, hb, zz hp, zz hmq, _, rfl, rfl, _, rfl, ?_⟩
      refine ite2 (fun h => ?_) (fun h => ?_)
      · have e : cmpR p q = side := V.int.inj (of_decide_eq_true h)
        refine ⟨_, rfl, c, p, _, rfl, rfl, hc, ⟨i, hx, hp⟩, fun j r hj hr => ?_⟩
        by_cases z : j = i
        · subst z
          rw [hp] at hr
          cases hr
          rw [cmp_self]
          rcases hside with rfl | rfl <;> decide
        · exact edge_step hside (far j r (by omega) hr) e
      · have e : cmpR p q ≠ side := fun z => h (decide_eq_true (by rw [z]))
        refine ⟨b, q, _, rfl, rfl, hb, ⟨m, hm, hmq⟩, fun j r hj hr => ?_⟩
        by_cases z : j = i
        · subst z
          rw [hp] at hr
          cases hr
          exact e
        · exact far j r (by omega) hr
    rintro σ J ⟨b, q, v, rfl, rfl, best⟩
    rw [ln] at best
    exact ⟨_, rfl, k1 b q best⟩
  · refine ⟨_, pss_cons (ps_if (pt_cmpR op_eq (pe_callB call_len (by rfl) noLen (by decide +kernel) (pa_cons (pv 0) pa_nil)) pe_int (nomark _)) (pss_one (ps_raise rfl (takes_of rfl rfl rfl rfl) (pmk_err k.T k.iC k.tI G hr k.b pass0 rfl k.mgC (pa_cons pe_str pa_nil)))) pss_nil)
      (pss_cons (ps_set (i := 2) scOuter.nd rfl (Or.inl rfl) (pe_ix ix_tup (pv 0) pe_int (fun _ _ => rfl)))
      (pss_cons (ps_for (PassesOwn.leaving) rfl (pi_tup (pv 0)) (pg_name (i := 3) scOuter.nd rfl (Or.inl rfl))
        (pss_one (ps_if (pt_cmpR op_eq (pe_call GC hr1 rfl mC kC bC .nil pass0 (pa_cons (pv 3) (pa_cons (pv 2) pa_nil))) (pv 1) (nomark _)) (pss_one (ps_set (i := 2) scOuter.nd rfl (Or.inl rfl) (pv 3))) pss_nil)))
      (pss_one (ps_ret (pv 2))))), ?_⟩
    refine ⟨_, rfl, _, xs.length, rfl, .inr ⟨xs, hs, rfl⟩, rfl, _, rfl, ?_⟩
    refine ite2 (fun h => ?_) (fun h => ?_)
    · have e : (xs.length : Int) = 0 := V.int.inj (of_decide_eq_true h)
      have z : qs = [] := List.eq_nil_of_length_eq_zero (by omega)
      exact ⟨.str "some", rfl, k2 z⟩
    have ne : qs ≠ [] := fun z => h (decide_eq_true (by rw [ln, z]; rfl))
    have pos : 0 < xs.length := by
      rw [ln]
      exact List.length_pos_iff.mpr ne
    have k1 := k1 ne
    clear h k2
    obtain ⟨x0, hx0⟩ : ∃ x0, xs[0]? = some x0 := ⟨_, List.getElem?_eq_getElem pos⟩
    obtain ⟨q0, a0, hq0, rfl, hf0⟩ := hf.at_ hx0
    refine ⟨_, rfl, a, xs, 0, .ref a0, rfl, rfl, hs, atI_nat hx0, ?_⟩
    have zz : ∀ {i : Nat} {q : Rat}, qs[i]? = some q → Sz 3000 q := fun h => (sz _ (List.mem_of_getElem? h)).mono (by decide)
    refine ⟨_, rfl, a, rfl, ⟨_, hs⟩, for_tup (K := K) (a := a) (xs := xs) (fun i σ J => ∃ (b : Addr) (q : Rat) (v : Option V), σ = [some (.ref a), some (.int side), some (.ref b), v] ∧ J = H ∧ Best K H side xs qs i b q)
      ⟨a0, q0, none, rfl, rfl, hf0, ⟨0, hx0, hq0⟩, fun j p z => absurd z (Nat.not_lt_zero _)⟩ (fun i σ J _ ⟨_, _, _, _, e, _⟩ => by rw [e]; exact hs) ?_ ?_⟩
    · rintro i x σ J hx ⟨b, q, v, rfl, rfl, hb, ⟨m, hm, hmq⟩, far⟩
      obtain ⟨p, c, hp, rfl, hc⟩ := hf.at_ hx
      refine ⟨_, rfl, _, rfl, c, b, p, q, rfl, hc, hb, zz hp, zz hmq, _, rfl, rfl, _, rfl, ?_⟩
      refine ite2 (fun h => ?_) (fun h => ?_)
      · have e : cmpR p q = side := V.int.inj (of_decide_eq_true h)
        refine ⟨_, rfl, c, p, _, rfl, rfl, hc, ⟨i, hx, hp⟩, fun j r hj hr => ?_⟩
        by_cases z : j = i
        · subst z
          rw [hp] at hr
          cases hr
          rw [cmp_self]
          rcases hside with rfl | rfl <;> decide
        · exact edge_step hside (far j r (by omega) hr) e
      · have e : cmpR p q ≠ side := fun z => h (decide_eq_true (by rw [z]))
        refine ⟨b, q, _, rfl, rfl, hb, ⟨m, hm, hmq⟩, fun j r hj hr => ?_⟩
        by_cases z : j = i
        · subst z
          rw [hp] at hr
          cases hr
          exact e
        · exact far j r (by omega) hr
    rintro σ J ⟨b, q, v, rfl, rfl, best⟩
    rw [ln] at best
    exact ⟨_, rfl, k1 b q best⟩
theorem ok_least {f fO : Addr} {fd fdO : FuncData} (F : Fun K "least_of" "least_of" sLeast f fd) (GO : FnOk P w K mg base (L2.CX P w) 3 fO fdO ["some", "side"] (spOuter K C)) (mO : mg "outermost" = some (.ref fO)) (kO : PySem.W.keepIn K (.ref fO) = true) (bO : Binds K fdO ["some", "side"] []) :
    FnOk P w K mg base (L2.CX P w) 4 f fd ["some"] (spEdge K C (-1)) := by
  refine F.okX scLeast (fun vs H Q E h => ?_) (fun cdv A outer s H vs Q E hr h => ?_)
  · obtain ⟨a, xs, qs, rfl, _⟩ := h
    rfl
  obtain ⟨a, xs, qs, rfl, hs, k1, k2⟩ := h
  refine ⟨_, pss_one (ps_ret (pe_callS GO hr rfl mO kO bO (fun σ => passAt (takes_of rfl rfl rfl rfl) σ) (pa_cons (pv 0) (pa_cons (pe_un un_neg pe_int) pa_nil)))), ?_⟩
  exact ⟨_, rfl, _, rfl, a, -1, xs, qs, rfl, .inr rfl, hs, k1, k2⟩
theorem ok_greatest {f fO : Addr} {fd fdO : FuncData} (F : Fun K "greatest_of" "greatest_of" sGreatest f fd) (GO : FnOk P w K mg base (L2.CX P w) 3 fO fdO ["some", "side"] (spOuter K C)) (mO : mg "outermost" = some (.ref fO)) (kO : PySem.W.keepIn K (.ref fO) = true) (bO : Binds K fdO ["some", "side"] []) :
    FnOk P w K mg base (L2.CX P w) 4 f fd ["some"] (spEdge K C 1) := by
  refine F.okX scGreatest (fun vs H Q E h => ?_) (fun cdv A outer s H vs Q E hr h => ?_)
  · obtain ⟨a, xs, qs, rfl, _⟩ := h
    rfl
  obtain ⟨a, xs, qs, rfl, hs, k1, k2⟩ := h
  refine ⟨_, pss_one (ps_ret (pe_callS GO hr rfl mO kO bO (fun σ => passAt (takes_of rfl rfl rfl rfl) σ) (pa_cons (pv 0) (pa_cons pe_int pa_nil)))), ?_⟩
  exact ⟨_, rfl, a, 1, xs, qs, rfl, .inl rfl, hs, k1, k2⟩
end
end
end K02

set_option Elab.async false
set_option linter.all false
set_option maxRecDepth 100000
set_option maxHeartbeats 4000000
/-! Wc0: a def by its name: what may be called (Cal, CalG), the rules of its calls, how one comes to be. -/
namespace Wb
open PySem PySem.Spec PyProof.Rows L2
/-- the def's record -/
def FdOf (x : Str) (st : Stmt) (fd : FuncData) : Prop := ∃ (kV dc pm : Value) (an : Option Addr) (cd ct : Value), fd = PySem.W.fnOf x x (defArgs st) (defBody st) (defScope st) .none kV dc pm an cd ct
section
variable (P : Program) (w : World) (K : PySem.W.Frag) (mg : Str → Option Value) (base : Heap)
/-- the def of this name, promised -/
def Cal (CX : CXT) (k : Nat) (x : Str) (st : Stmt) (ps : List Str) (sp : Sp) : Prop := ∃ (f : Addr) (fd : FuncData), FnOk P w K mg base CX k f fd ps sp ∧ mg x = some (.ref f) ∧ PySem.W.keepIn K (.ref f) = true ∧ Binds K fd ps [] ∧ FdOf x st fd
/-- .. where no repr runs -/
def CalG (CX : CXT) (k : Nat) (x : Str) (st : Stmt) (ps : List Str) (sp : Sp) : Prop := ∃ (f : Addr) (fd : FuncData), FnG P w K mg base CX k f fd ps sp ∧ mg x = some (.ref f) ∧ PySem.W.keepIn K (.ref f) = true ∧ Binds K fd ps [] ∧ FdOf x st fd
/-- the def of this name as it stands in the text -/
def Def (K : PySem.W.Frag) (mg : Str → Option Value) (x : Str) (st : Stmt) (ps : List Str) : Prop := ∃ (f : Addr) (fd : FuncData), Fun K x x st f fd ∧ mg x = some (.ref f) ∧ Binds K fd ps [] ∧ FdOf x st fd
end
section
variable {P : Program} {w : World} {K : PySem.W.Frag} {mg : Str → Option Value} {base : Heap} {CX : CXT} {k : Nat} {x : Str} {N ps : List Str} {sp : Sp} {st : Stmt}
theorem Cal.G (C : Cal P w K mg base CX k x st ps sp) : CalG P w K mg base CX k x st ps sp := by
  obtain ⟨f, fd, F, m, kp, b, o⟩ := C
  exact ⟨f, fd, .of F, m, kp, b, o⟩
theorem Cal.quiet (C : Cal P w K mg base (L2.CX P w) k x st ps sp) : Cal P w K mg base CX0 k x st ps (fun vs H Q _ => sp vs H Q (fun _ _ _ => False)) := by
  obtain ⟨f, fd, F, m, kp, b, o⟩ := C
  exact ⟨f, fd, Wb.quiet F, m, kp, b, o⟩
theorem Cal.weaken {sp' : Sp} (C : Cal P w K mg base CX k x st ps sp) (h : ∀ vs H Q E, sp' vs H Q E → sp vs H Q E) : Cal P w K mg base CX k x st ps sp' := by
  obtain ⟨f, fd, F, m, kp, b, o⟩ := C
  exact ⟨f, fd, ⟨fun vs H Q E z => F.len vs H Q E (h _ _ _ _ z), fun A outer s H args us vs Q E hr he hb hv hs => F.run A outer s H args us vs Q E hr he hb hv (h _ _ _ _ hs)⟩, m, kp, b, o⟩
theorem Def.ok (D : Def K mg x st ps) (S : FnScope N ps (defScope st)) (len : ∀ vs H Q E, sp vs H Q E → vs.length = ps.length)
    (hbody : ∀ (cdv : Value) (f : Addr) (A : Around) (outer : List Env) (s : Shared) (H : Hp) (vs : List V) (Q : VK) (E : XK), Room k (A.deeper (envOfC x (defScope st) s.heap.objs.size f cdv)) → sp vs H Q E →
      ∃ t, PSs (cxOf CX0 P w K mg base N x (defScope st) f cdv A outer s H E).nox (defBody st) t ∧ t { nx := fun _ H' => Q .non H', rt := Q } (start N vs) H) : Cal P w K mg base CX0 (k + 1) x st ps sp := by
  obtain ⟨f, fd, F, m, b, o⟩ := D
  exact ⟨f, fd, F.ok S len fun cdv => hbody cdv f, m, F.kp, b, o⟩
theorem Def.okX (D : Def K mg x st ps) (S : FnScope N ps (defScope st)) (len : ∀ vs H Q E, sp vs H Q E → vs.length = ps.length)
    (hbody : ∀ (cdv : Value) (f : Addr) (A : Around) (outer : List Env) (s : Shared) (H : Hp) (vs : List V) (Q : VK) (E : XK), Room k (A.deeper (envOfC x (defScope st) s.heap.objs.size f cdv)) → sp vs H Q E →
      ∃ t, PSs (cxOf (L2.CX P w) P w K mg base N x (defScope st) f cdv A outer s H E) (defBody st) t ∧ t { nx := fun _ H' => Q .non H', rt := Q } (start N vs) H) : Cal P w K mg base (L2.CX P w) (k + 1) x st ps sp := by
  obtain ⟨f, fd, F, m, b, o⟩ := D
  exact ⟨f, fd, F.okX S len fun cdv => hbody cdv f, m, F.kp, b, o⟩
theorem Def.okG (D : Def K mg x st ps) (S : FnScope N ps (defScope st)) (len : ∀ vs H Q E, sp vs H Q E → vs.length = ps.length)
    (hbody : ∀ (cdv : Value) (f : Addr) (A : Around) (outer : List Env) (s : Shared) (H : Hp) (vs : List V) (Q : VK) (E : XK),
      (A.deeper (envOfC x (defScope st) s.heap.objs.size f cdv)).guards = some [] → Room k (A.deeper (envOfC x (defScope st) s.heap.objs.size f cdv)) → sp vs H Q E →
      ∃ t, PSs (cxOf CX P w K mg base N x (defScope st) f cdv A outer s H E) (defBody st) t ∧ t { nx := fun _ H' => Q .non H', rt := Q } (start N vs) H) : CalG P w K mg base CX (k + 1) x st ps sp := by
  obtain ⟨f, fd, F, m, b, o⟩ := D
  exact ⟨f, fd, Wb.okG F S len fun cdv => hbody cdv f, m, F.kp, b, o⟩
end
section
variable {X : Cx} {CX : CXT} {k : Nat} {ps ks : List Str} {sp : Sp} {E : XK} {x : Str} {st : Stmt} {p pos : Pos} {e : Expr} {es : List Expr} {t : TA}
theorem pe_cal (C : Cal X.prog X.w X.K X.mg X.base CX k x st ps sp) (hr : Room k X.A) (hg : Gl X x) (hx : Passes CX X E)
    (ha : PA X (e :: es) t) (hdb : (x == ("__debug__" : Str)) = false := by decide) (he : starEach (e :: es) X.env = (false, eval e X.env) :: starEach es X.env := by rfl) (hpl : (backTo pos (starEach es X.env)).any (·.1) = false := by rfl) :
    PE X (.Call (.Name x p) (e :: es) [] pos) (tCall sp [] E t) := by
  obtain ⟨f, fd, F, m, kp, b, o⟩ := C
  exact pe_call F hr hg m kp b .nil hx ha hdb he hpl
theorem pe_cal0 (C : Cal X.prog X.w X.K X.mg X.base CX k x st ps sp) (hr : Room k X.A) (hg : Gl X x) (hx : Passes CX X E) (hdb : (x == ("__debug__" : Str)) = false := by decide) : PE X (.Call (.Name x p) [] [] pos) (tCall sp [] E tNil) := by
  obtain ⟨f, fd, F, m, kp, b, o⟩ := C
  exact pe_call0 F hr hg m kp b .nil hx hdb
theorem pe_calG (C : CalG X.prog X.w X.K X.mg X.base CX k x st ps sp) (gd : X.A.guards = some []) (hr : Room k X.A) (hg : Gl X x) (hx : Passes CX X E)
    (ha : PA X (e :: es) t) (hdb : (x == ("__debug__" : Str)) = false := by decide) (he : starEach (e :: es) X.env = (false, eval e X.env) :: starEach es X.env := by rfl) (hpl : (backTo pos (starEach es X.env)).any (·.1) = false := by rfl) :
    PE X (.Call (.Name x p) (e :: es) [] pos) (tCall sp [] E t) := by
  obtain ⟨f, fd, F, m, kp, b, o⟩ := C
  exact pe_callG F gd hr hg m kp b .nil hx ha hdb he hpl
/-- a def that may raise, called where it is caught, or let out -/
theorem pe_calS {E : L2.St → XK} (C : Cal X.prog X.w X.K X.mg X.base CX k x st ps sp) (hr : Room k X.A) (hg : Gl X x) (hx : ∀ σ, PassesAt CX X σ (E σ))
    (ha : PA X (e :: es) t) (hdb : (x == ("__debug__" : Str)) = false := by decide) (he : starEach (e :: es) X.env = (false, eval e X.env) :: starEach es X.env := by rfl) (hpl : (backTo pos (starEach es X.env)).any (·.1) = false := by rfl) :
    PE X (.Call (.Name x p) (e :: es) [] pos) (tCallS sp E t) := by
  obtain ⟨f, fd, F, m, kp, b, o⟩ := C
  exact pe_callS F hr hg m kp b hx ha hdb he hpl
end
/-- f(k = v, ..): ix tells, for each parameter, the place of its keyword among those written -/
def kwV (ix : List Nat) (zs : List V) : List V := ix.map fun i => zs.getD i .non
def kwU (ix : List Nat) (zs : List Value) : List Value := ix.map fun i => zs.getD i .none
theorem kw_rel {vs : List V} {us : List Value} (r : Vals vs us) : ∀ ix : List Nat, Vals (kwV ix vs) (kwU ix us)
  | [] => .nil
  | i :: ix => by
    refine .cons ?_ (kw_rel r ix)
    have go : ∀ {vs : List V} {us : List Value}, Vals vs us → ∀ i : Nat, RelV (vs.getD i .non) (us.getD i .none) := by
      intro vs us r
      induction r with
      | nil => intro i; exact rfl
      | cons h _ ih =>
        intro i
        cases i with
        | zero => exact h
        | succ i => exact ih i
    exact go r i
/-- how the keywords of such a call bind -/
def Kw (x : Str) (st : Stmt) (ps ks : List Str) (ix : List Nat) : Prop := ix.length = ps.length ∧ ∀ (kV dc pm : Value) (an : Option Addr) (cd ct : Value) (s : Shared) (ws : List Value), ws.length = ks.length →
  BindsTo s (PySem.W.fnOf x x (defArgs st) (defBody st) (defScope st) .none kV dc pm an cd ct) ⟨[], ks.zip ws⟩ (ps.zip (kwU ix ws))
section
variable {X : Cx} {CX : CXT} {k : Nat} {ps ks : List Str} {sp : Sp} {E : XK} {x : Str} {p pos : Pos} {st : Stmt} {kws : List Keyword} {tk : TA} {ix : List Nat}
def tCalK (sp : Sp) (ix : List Nat) (n : Nat) (E : XK) (tk : TA) : TE := fun σ H Q => tk σ H fun zs H2 => zs.length = n ∧ sp (kwV ix zs) H2 Q E
theorem pe_calK (C : Cal X.prog X.w X.K X.mg X.base CX k x st ps sp) (hr : Room k X.A) (hg : Gl X x) (hx : Passes CX X E) (hb : Kw x st ps ks ix)
    (hkw : PK X kws tk) (hall : (backToKw pos (keywordEach kws X.env)).all (·.1.isSome) = true := by rfl) (hks : (backToKw pos (keywordEach kws X.env)).filterMap (·.1) = ks := by rfl)
    (hdb : (x == ("__debug__" : Str)) = false := by decide) (hpl : ((backTo pos (starEach [] X.env)).any (·.1) || (backToKw pos (keywordEach kws X.env)).any (·.1.isNone)) = false := by rfl) :
    PE X (.Call (.Name x p) [] kws pos) (tCalK sp ix ks.length E tk) := by
  obtain ⟨f, fd, F, m, kp, b, ⟨kV, dc, pm, an, cd, ct, rfl⟩⟩ := C
  refine ⟨fun pins s σ H Q I h => ?_⟩
  refine wpAny_Call_Name_kw (ld_glob I hg m ?_ hdb)
  refine PySem.W.callWith_KW0 (h₀ := X.base) I.ok.mod.kin kp hall (thn (hkw.run pos pins s σ H _ I h) fun ws s2 ⟨zs, H2, I2, rz, hl, q2⟩ => ⟨I2.kIn, ?_⟩) hpl
  rw [hks]
  have hl2 : ws.length = ks.length := by rw [← rz.length]; exact hl
  have r2 := kw_rel rz ix
  refine wpAny_call (codeAny_mono (F.run X.A X.stack s2 H2 ⟨[], ks.zip ws⟩ (kwU ix ws) (kwV ix zs) _ E hr I2.env0 (hb.2 _ _ _ _ _ _ s2 ws hl2) r2 q2) fun r s' hq => ?_)
  cases r with
  | error e => exact hx pins σ H2 s2 e s' I2 hq
  | ok fl =>
    cases fl with
    | ret u => exact I2.after hq
    | next => exact False.elim hq
    | brk => exact False.elim hq
    | cont => exact False.elim hq
theorem pe_calKG (C : CalG X.prog X.w X.K X.mg X.base CX k x st ps sp) (gd : X.A.guards = some []) (hr : Room k X.A) (hg : Gl X x) (hx : Passes CX X E) (hb : Kw x st ps ks ix)
    (hkw : PK X kws tk) (hall : (backToKw pos (keywordEach kws X.env)).all (·.1.isSome) = true := by rfl) (hks : (backToKw pos (keywordEach kws X.env)).filterMap (·.1) = ks := by rfl)
    (hdb : (x == ("__debug__" : Str)) = false := by decide) (hpl : ((backTo pos (starEach [] X.env)).any (·.1) || (backToKw pos (keywordEach kws X.env)).any (·.1.isNone)) = false := by rfl) :
    PE X (.Call (.Name x p) [] kws pos) (tCalK sp ix ks.length E tk) := by
  obtain ⟨f, fd, F, m, kp, b, ⟨kV, dc, pm, an, cd, ct, rfl⟩⟩ := C
  refine ⟨fun pins s σ H Q I h => ?_⟩
  refine wpAny_Call_Name_kw (ld_glob I hg m ?_ hdb)
  refine PySem.W.callWith_KW0 (h₀ := X.base) I.ok.mod.kin kp hall (thn (hkw.run pos pins s σ H _ I h) fun ws s2 ⟨zs, H2, I2, rz, hl, q2⟩ => ⟨I2.kIn, ?_⟩) hpl
  rw [hks]
  have hl2 : ws.length = ks.length := by rw [← rz.length]; exact hl
  have r2 := kw_rel rz ix
  refine wpAny_call (codeAny_mono (F.go X.A X.stack s2 H2 ⟨[], ks.zip ws⟩ (kwU ix ws) (kwV ix zs) _ E gd hr I2.env0 (hb.2 _ _ _ _ _ _ s2 ws hl2) r2 q2) fun r s' hq => ?_)
  cases r with
  | error e => exact hx pins σ H2 s2 e s' I2 hq
  | ok fl =>
    cases fl with
    | ret u => exact I2.after hq
    | next => exact False.elim hq
    | brk => exact False.elim hq
    | cont => exact False.elim hq
end
/-! ### what the head finds -/
/-- a def as the top has left it -/
def FnF (K : PySem.W.Frag) (nm q : Str) (st : Stmt) (f : Addr) : Prop := ∃ (oc : Value) (od : Option Addr) (kV dc pm : Value) (an : Option Addr) (cd ct : Value) (sl : Array (Option Value)),
  K.lookup f = some ⟨oc, od, .func (PySem.W.fnOf nm q (defArgs st) (defBody st) (defScope st) .none kV dc pm an cd ct), sl⟩ ∧ PySem.W.codeIn K cd q = true ∧ PySem.W.keepIn K (.ref f) = true
theorem FnF.mk2 {K : PySem.W.Frag} {nm q : Str} {st : Stmt} {f : Addr} {oc : Value} {od : Option Addr} {kV dc pm : Value} {an : Option Addr} {cd ct : Value} {sl : Array (Option Value)}
    (l : K.lookup f = some ⟨oc, od, .func (PySem.W.fnOf nm q (defArgs st) (defBody st) (defScope st) .none kV dc pm an cd ct), sl⟩) (c : PySem.W.codeIn K cd q = true) (k : PySem.W.keepIn K (.ref f) = true) : FnF K nm q st f := ⟨oc, od, kV, dc, pm, an, cd, ct, sl, l, c, k⟩
theorem FnF.def_ {K : PySem.W.Frag} {mg : Str → Option Value} {h : Heap} (X : K.In h) (G : h.Ns mainGlobals mg) {x : Str} {st : Stmt} {ps : List Str} {f : Addr} (z : PySem.W.nsIn K mainGlobals x = some (some (.ref f))) (y : FnF K x x st f)
    (b : ∀ (kV doc pm : Value) (an : Option Addr) (cdv ct : Value) (us : List Value), us.length = ps.length → bindArgs (PySem.W.fnOf x x (defArgs st) (defBody st) (defScope st) .none kV doc pm an cdv ct) ⟨us, []⟩ = pure (ps.zip us)) : Def K mg x st ps := by
  obtain ⟨oc, od, kV, dc, pm, an, cd, ct, sl, l, c, kp⟩ := y
  exact ⟨f, _, fun_mk l c kp, PySem.W.mg_of X G z, .all (b kV dc pm an cd ct), kV, dc, pm, an, cd, ct, rfl⟩
end Wb

set_option Elab.async false
set_option linter.all false
set_option maxRecDepth 100000
set_option maxHeartbeats 4000000
/-! Wc1: own exceptions by their names: what the head finds of them, how they are raised, caught, asked. -/
namespace Wb
open PySem PySem.Spec PyProof.Rows L2
section
variable {K : PySem.W.Frag}
/-- an own exception's class as the top has left it: what stands above it in its chain, and how it is made -/
def ClsRow (K : PySem.W.Frag) (C : Addr) (top : List Value) (newId : String) : Prop :=
  ∃ (nm q : Str) (N : Addr) (bs : List Value) (sn : List Str) (sub : List Value) (ab : Bool) (col : Option Bool) (dd : Option Addr) (k0 k1 k2 k3 k5 : Option Value),
    K.lookup C = some (excClassObj nm q C N bs top true sn sub ab col dd k0 k1 k2 k3 k5 newId)
structure EF (K : PySem.W.Frag) (C : Addr) (top : List Value) (newId : String) : Prop where
  row : ClsRow K C top newId
  sa : PySem.W.findIn K (.ref C) "__setattr__" = some (some (.builtin "object.__setattr__"))
  ga : PySem.W.findIn K (.ref C) "__getattribute__" = some (some (.builtin "BaseException.__getattribute__"))
  gg : PySem.W.findIn K (.ref C) "__getattr__" = some none
  exc : PySem.W.subIn K (.ref C) (.type "BaseException") = some true
  ty : PySem.W.typeIn K (.ref C) = some (.type "type")
  hd : PySem.W.hasDictIn K C = true
  kp : PySem.W.keepIn K (.ref C) = true
  hc : PySem.W.findIn K (.ref C) "__class__" = some (some (.builtin "object.__class__"))
  hm : PySem.W.mroIn K C (.type "object") = some true
theorem EF.err {C : Addr} {top : List Value} {newId B initId S : String} {bmB bmS : List Value} (e : EF K C top newId) (FB : PySem.ExcBaseFacts B newId initId bmB) (SF : PySem.StoreFacts S bmS "object.__setattr__" "object") (ch : PySem.WbE.Chain top B)
    (tl : PySem.W.excTail bmS top = true) (hn : PySem.W.specialIn K (.builtin "object.__class__") "__get__" = some (some (.builtin "getset_descriptor.__get__"))) (ht : PySem.W.takesIn K (.builtin "object.__class__") = some true) : ErrC K C := by
  obtain ⟨nm, q, N, bs, sn, sub, ab, col, dd, k0, k1, k2, k3, k5, xL⟩ := e.row
  refine ⟨⟨B, newId, initId, bmB, nm, q, N, bs, top, sn, sub, ab, col, dd, k0, k1, k2, k3, k5, FB, ch, xL⟩, ⟨S, bmS, SF, ?_⟩, e.sa, e.ga, e.gg, e.exc, e.ty, e.hd, e.kp, e.hc, hn, ht, e.hm⟩
  unfold PySem.W.excOver PySem.W.clsIn
  rw [xL]
  show (C == C && PySem.W.excTail bmS top) = true
  rw [tl]
  simp
/-- what is below what -/
structure Row (K : PySem.W.Frag) (C : Addr) (top : List Value) : Prop where
  sub : ∀ v, PySem.W.subIn K (.ref C) v = some ((Value.ref C :: top).contains v)
  cls : (PySem.W.clsIn K C).isSome = true
  ty : PySem.W.typeIn K (.ref C) = some (.type "type")
theorem EF.chain {C : Addr} {top : List Value} {newId : String} (e : EF K C top newId) : Row K C top := by
  obtain ⟨nm, q, N, bs, sn, sub, ab, col, dd, k0, k1, k2, k3, k5, xL⟩ := e.row
  refine ⟨fun v => ?_, ?_, e.ty⟩
  · show PySem.W.mroIn K C v = _
    unfold PySem.W.mroIn PySem.W.clsIn
    rw [xL]
    rfl
  · unfold PySem.W.clsIn
    rw [xL]
    rfl
theorem Row.one_ty {C : Addr} {top : List Value} {X : String} (r : Row K C top) (km : PySem.W.kitMeta X = true) : PySem.W.kitOne K (.ref C) (.type X) = some (top.contains (.type X)) := by
  unfold PySem.W.kitOne
  rw [if_neg (by simp)]
  show (if PySem.W.kitMeta X = true then PySem.W.subIn K (.ref C) (.type X) else none) = _
  rw [if_pos km, r.sub]
  simp
theorem Row.one_ref {C D : Addr} {top up : List Value} (r : Row K C top) (r2 : Row K D up) : PySem.W.kitOne K (.ref C) (.ref D) = some (decide (C = D) || top.contains (.ref D)) := by
  unfold PySem.W.kitOne
  by_cases h : C = D
  · subst h
    rw [if_pos (by simp)]
    simp
  · rw [if_neg (by simpa using h)]
    show (if ((PySem.W.clsIn K D).isSome && PySem.W.typeIn K (.ref D) == some (.type "type")) = true then PySem.W.subIn K (.ref C) (.ref D) else none) = _
    rw [r2.cls, r2.ty, if_pos (by simp), r.sub]
    have h' : ¬ D = C := fun e => h e.symm
    simp [h, h']
theorem Row.exm_ref {C D : Addr} {top up : List Value} (r : Row K C top) (r2 : Row K D up) (b : up.contains (.type "BaseException") = true) : PySem.W.exmOne K (.ref C) (.ref D) = some (decide (C = D) || top.contains (.ref D)) := by
  unfold PySem.W.exmOne
  rw [r2.sub, if_pos (by rw [List.contains_cons, b]; simp)]
  show (if ((PySem.W.clsIn K D).isSome && PySem.W.typeIn K (.ref D) == some (.type "type")) = true then PySem.W.subIn K (.ref C) (.ref D) else none) = _
  rw [r2.cls, r2.ty, if_pos (by simp), r.sub]
  by_cases h : C = D
  · subst h
    simp
  · have h' : ¬ D = C := fun e => h e.symm
    simp [h, h']
theorem Row.exm_ty {C : Addr} {top : List Value} {X : String} (r : Row K C top) (km : PySem.W.kitMeta X = true) (b : PySem.W.subIn K (.type X) (.type "BaseException") = some true) : PySem.W.exmOne K (.ref C) (.type X) = some (top.contains (.type X)) := by
  unfold PySem.W.exmOne
  rw [b, if_pos (by simp)]
  show (if PySem.W.kitMeta X = true then PySem.W.subIn K (.ref C) (.type X) else none) = _
  rw [if_pos km, r.sub]
  simp
theorem ClsRow.mk2 {C : Addr} {top : List Value} {newId : String} {nm q : Str} {N : Addr} {bs : List Value} {sn : List Str} {sub : List Value} {ab : Bool} {col : Option Bool} {dd : Option Addr} {k0 k1 k2 k3 k5 : Option Value}
    (l : K.lookup C = some (excClassObj nm q C N bs top true sn sub ab col dd k0 k1 k2 k3 k5 newId)) : ClsRow K C top newId := ⟨nm, q, N, bs, sn, sub, ab, col, dd, k0, k1, k2, k3, k5, l⟩

end
def topE (CB : Addr) : List Value := [.ref CB, .type "Exception", .type "BaseException", .type "object"]
def topK : List Value := [.type "KeyError", .type "LookupError", .type "Exception", .type "BaseException", .type "object"]
def topB : List Value := [.type "Exception", .type "BaseException", .type "object"]
section
variable (P : Program) (w : World) (K : PySem.W.Frag) (mg : Str → Option Value) (base : Heap)
/-- an own exception with one field -/
structure Err (x fld : Str) (C : Addr) (top : List Value) : Prop where
  T : ErrC K C
  g : mg x = some (.ref C)
  row : Row K C top
  no : PySem.W.findIn K (.ref C) fld = some none
  ini : ∃ (fI : Addr) (fd : FuncData), PySem.W.findIn K (.ref C) "__init__" = some (some (.ref fI)) ∧ PySem.W.typeIn K (.ref fI) = some (.type "function") ∧ FnOk P w K mg base CX0 1 fI fd ["self", fld] (spIni C fld) ∧ Binds K fd ["self", fld] []
/-- an own exception without fields -/
structure ErrB (K : PySem.W.Frag) (mg : Str → Option Value) (x : Str) (C : Addr) (top : List Value) : Prop where
  T : ErrC K C
  g : mg x = some (.ref C)
  row : Row K C top
end
section
variable {P : Program} {w : World} {K : PySem.W.Frag} {mg : Str → Option Value} {base : Heap} {x fld y g : Str} {C D B : Addr} {top : List Value}
theorem Err.exm_self (Z : Err P w K mg base x fld C top) (h : top.contains (.type "BaseException") = true) : PySem.W.exmOne K (.ref C) (.ref C) = some true := by
  rw [Z.row.exm_ref Z.row h]
  simp
theorem Err.is_self (Z : Err P w K mg base x fld C top) : PySem.W.kitOne K (.ref C) (.ref C) = some true := by
  rw [Z.row.one_ref Z.row]
  simp
theorem Err.is_base (Z : Err P w K mg base x fld C (topE B)) (ZB : ErrB K mg y B topB) : PySem.W.kitOne K (.ref C) (.ref B) = some true := by
  rw [Z.row.one_ref ZB.row]
  simp [topE]
theorem Err.isnt {up : List Value} (Z : Err P w K mg base x fld C (topE B)) (Y : Err P w K mg base y g D up) (h1 : C ≠ D) (h2 : D ≠ B) : PySem.W.kitOne K (.ref C) (.ref D) = some false := by
  rw [Z.row.one_ref Y.row]
  simp [topE, h1, h2]
end
section
variable {X : Cx} {x fld : Str} {C : Addr} {top : List Value} {k : Nat} {p pos : Pos} {e : Expr} {es : List Expr} {ta : TA}
/-- raise C(e) -/
theorem pmk_E (Z : Err X.prog X.w X.K X.mg X.base x fld C top) (hr : Room k X.A) (hk : 2 ≤ k) (hg : Gl X x) (ha : PA X (e :: es) ta) (hdb : (x == ("__debug__" : Str)) = false := by decide)
    (he : starEach (e :: es) X.env = (false, eval e X.env) :: starEach es X.env := by rfl) (hpl : (backTo pos (starEach es X.env)).any (·.1) = false := by rfl) : PMk X (.Call (.Name x p) (e :: es) [] pos) (tErrX C fld ta) := by
  obtain ⟨fI, fd, iC, tI, F1, hb⟩ := Z.ini
  exact pmk_err Z.T iC tI F1 (hr.mono hk) hb pass0 hg Z.g ha hdb he hpl
end
end Wb

set_option Elab.async false
set_option linter.all false
set_option maxRecDepth 100000
set_option maxHeartbeats 4000000
/-! Wd0: what may be shown, ints of some hundred figures among it. -/
namespace Wb
open PySem PySem.Spec PyProof.Rows L2
/-- what repr asks of data -/
def Shw (d : PyData) : Prop := d.showable = true ∧ d.hasDict = false ∧ d.depth ≤ 60 ∧ d.shown.length ≤ sizeLine
structure Tb (n W : Nat) (e : PyData) : Prop where
  shows : e.showable = true
  noDict : e.hasDict = false
  deep : e.depth ≤ n
  short : e.leavesShort 2000 = true
  light : e.bulk ≤ W
structure TbAll (n W : Nat) (es : List PyData) : Prop where
  shows : PyData.showableAll es = true
  noDict : PyData.hasDictAll es = false
  deep : PyData.depthAll es ≤ n
  short : PyData.leavesShortAll 2000 es = true
  light : PyData.bulkAll es ≤ W
theorem Tb.shw {n W : Nat} {e : PyData} (t : Tb n W e) (h : n ≤ 60 := by decide) (hw : W ≤ 8000 := by decide) : Shw e := by
  refine ⟨t.shows, t.noDict, Nat.le_trans t.deep h, ?_⟩
  have q := PyData.shown_le_bulk 2000 (by decide) e t.short
  have l := t.light
  rw [sizeLine_eq]
  omega
theorem Tb.more {n m W Z : Nat} {e : PyData} (t : Tb n W e) (h1 : n ≤ m) (h2 : W ≤ Z) : Tb m Z e :=
  ⟨t.shows, t.noDict, Nat.le_trans t.deep h1, t.short, Nat.le_trans t.light h2⟩
theorem TbAll.nil {n : Nat} : TbAll n 0 [] := ⟨by simp [PyData.showableAll], by simp [PyData.hasDictAll], by simp [PyData.depthAll], by simp [PyData.leavesShortAll], by simp [PyData.bulkAll]⟩
theorem TbAll.cons {n V W : Nat} {e : PyData} {es : List PyData} (t : Tb n V e) (h : TbAll n W es) : TbAll n (V + 1 + W) (e :: es) := by
  obtain ⟨a1, a2, a3, a4, a5⟩ := t
  obtain ⟨b1, b2, b3, b4, b5⟩ := h
  refine ⟨by simp [PyData.showableAll, a1, b1], by simp [PyData.hasDictAll, a2, b2], ?_, by simp [PyData.leavesShortAll, a4, b4], ?_⟩
  · simp only [PyData.depthAll]
    exact Nat.max_le.mpr ⟨a3, b3⟩
  · simp only [PyData.bulkAll]
    omega
theorem TbAll.of {n W : Nat} : ∀ {es : List PyData}, (∀ e ∈ es, Tb n W e) → TbAll n (es.length * (W + 1)) es
  | [], _ => by
    have := TbAll.nil (n := n)
    simpa using this
  | e :: es, h => by
    have a := TbAll.cons (h e List.mem_cons_self) (TbAll.of fun x hx => h x (List.mem_cons_of_mem _ hx))
    have q : (e :: es).length * (W + 1) = W + 1 + es.length * (W + 1) := by
      rw [List.length_cons, Nat.succ_mul]
      omega
    rw [q]
    exact a
theorem TbAll.more {n m W Z : Nat} {es : List PyData} (t : TbAll n W es) (h1 : n ≤ m) (h2 : W ≤ Z) : TbAll m Z es :=
  ⟨t.shows, t.noDict, Nat.le_trans t.deep h1, t.short, Nat.le_trans t.light h2⟩
theorem TbAll.list {n W : Nat} {es : List PyData} (h : TbAll n W es) : Tb (n + 1) W (.list es) := by
  obtain ⟨b1, b2, b3, b4, b5⟩ := h
  refine ⟨by simpa [PyData.showable] using b1, by simpa [PyData.hasDict] using b2, ?_, by simpa [PyData.leavesShort] using b4, by simpa [PyData.bulk] using b5⟩
  simp only [PyData.depth]
  omega
theorem TbAll.tuple {n W : Nat} {es : List PyData} (h : TbAll n W es) : Tb (n + 1) W (.tuple es) := by
  obtain ⟨b1, b2, b3, b4, b5⟩ := h
  refine ⟨by simpa [PyData.showable] using b1, by simpa [PyData.hasDict] using b2, ?_, by simpa [PyData.leavesShort] using b4, by simpa [PyData.bulk] using b5⟩
  simp only [PyData.depth]
  omega
theorem tb_none : Tb 0 0 .none := ⟨by decide +kernel, by decide +kernel, by decide +kernel, by decide +kernel, by decide +kernel⟩
theorem tb_bool (b : Bool) : Tb 0 0 (.bool b) := by cases b <;> exact ⟨by decide +kernel, by decide +kernel, by decide +kernel, by decide +kernel, by decide +kernel⟩
theorem tb_int {i : Int} (h : i.natAbs < 2 ^ 1900) : Tb 0 0 (.int i) := by
  have l : i.natAbs.log2 < 1900 := log_le h (by decide)
  refine ⟨?_, by simp [PyData.hasDict], by simp [PyData.depth], ?_, by simp [PyData.bulk]⟩
  · simp only [PyData.showable, decide_eq_true_eq]
    omega
  · simp only [PyData.leavesShort, decide_eq_true_eq]
    have := int_text_length_le (a := i) (by decide) l
    show (Str.ofString (toString i)).length ≤ 2000
    have e : (Str.ofString (toString i)).length = (toString i).length := by
      rw [Str.ofString_eq_toList]
      simp [Str.length]
      exact String.length_toList
    rw [e]
    omega
theorem tb_str {x : Str} {n : Nat} (h : ∀ a ∈ x.cps.toList, a < 16 ^ 8) (few : x.length ≤ n) : Tb 0 n (.str x) := by
  refine ⟨by simp [PyData.showable], by simp [PyData.hasDict], by simp [PyData.depth], ?_, ?_⟩
  · simp only [PyData.leavesShort, List.all_eq_true, decide_eq_true_eq]
    exact h
  · simp only [PyData.bulk]
    exact few
end Wb

set_option Elab.async false
set_option linter.all false
set_option maxRecDepth 100000
set_option maxHeartbeats 4000000
namespace K02
open PySem PySem.Spec PyProof.Rows L2 Wb Wf
abbrev s_fraction : Stmt := topS 8
abbrev s_plus : Stmt := topS 9
abbrev s_minus : Stmt := topS 10
abbrev s_times : Stmt := topS 11
abbrev s_over : Stmt := topS 12
abbrev s_compared : Stmt := topS 13
abbrev s_signOf : Stmt := topS 14
abbrev s_total : Stmt := topS 15
abbrev s_product : Stmt := topS 16
abbrev s_least : Stmt := topS 17
abbrev s_greatest : Stmt := topS 18
abbrev s_outer : Stmt := topS 19
abbrev s_source : Stmt := topS 21
abbrev s_any : Stmt := topS 22
abbrev s_of : Stmt := topS 23
abbrev s_common : Stmt := topS 24
abbrev s_low : Stmt := topS 25
abbrev s_size : Stmt := topS 26
abbrev s_frac : Stmt := topS 27
abbrev s_sgn : Stmt := topS 28
abbrev s_divided : Stmt := topS 29
abbrev s_quotient : Stmt := topS 30
abbrev s_pair : Stmt := topS 31
abbrev s_oner : Stmt := topS 32
abbrev s_undone : Stmt := topS 33
abbrev s_edge : Stmt := topS 34
abbrev s_edgeR : Stmt := topS 35
abbrev s_rowR : Stmt := topS 36
abbrev s_law : Stmt := topS 37
/-! ### the law's numbers -/
def sp_common (K : PySem.W.Frag) : Sp := fun vs H Q _ => ∃ a b : Int, vs = [.int a, .int b] ∧ a.natAbs < 2 ^ 4000 ∧ b.natAbs < 2 ^ 4000 ∧ Q (.int ((Nat.gcd a.natAbs b.natAbs : Nat) : Int)) H
def sp_low (K : PySem.W.Frag) : Sp := fun vs H Q _ => ∃ (t b : Int) (q : Rat), vs = [.int t, .int b] ∧ 0 < b ∧ t.natAbs < 2 ^ 4000 ∧ b.natAbs < 2 ^ 4000 ∧ Rat.divInt t b = q ∧ ∀ p H', Same H H' → Fr K H' p q → Q (.ref p) H'
def sp_size (K : PySem.W.Frag) : Sp := fun vs H Q _ => ∃ (d c : Addr) (g : Int) (N : Nat), vs = [.ref d, .int g] ∧ Deal H d c ∧ 0 < g ∧ g ≤ N ∧ 1000000 ≤ N ∧ N < 2 ^ 200 ∧
  ∀ (r : Int) (H' : Hp), r.natAbs ≤ N → Deal H' d c → Same (off H d c) (off H' d c) → Q (.int r) H'
def sp_frac (K : PySem.W.Frag) : Sp := fun vs H Q _ => ∃ (d c : Addr) (g : Int) (N n : Nat), vs = [.ref d, .int g] ∧ Deal H d c ∧ 1 < g ∧ g ≤ N ∧ 1000000 ≤ N ∧ N < 2 ^ n ∧ n ≤ 200 ∧
  ∀ (p : Addr) (q : Rat) (H' : Hp), Sz (n + 1) q → Fr K (off H' d c) p q → Deal H' d c → Same (off H d c) (off H' d c) → Q (.ref p) H'
def sgnI (n : Int) : Int := if n > 0 then 1 else if n = 0 then 0 else -1
def sp_sgn (K : PySem.W.Frag) : Sp := fun vs H Q _ => ∃ n : Int, vs = [.int n] ∧ Q (.int (sgnI n)) H
/-- a fraction as data -/
def frD (q : Rat) : PyData := .tuple [.int q.num, .int (q.den : Int)]
def qD (p q : Rat) : PyData := if q = 0 then .str "bottom" else frD (p / q)
theorem Fr.dp {K : PySem.W.Frag} {H : Hp} {a : Addr} {q : Rat} (h : Fr K H a q) : Dp K H (.ref a) (frD q) := .tup h (.cons (.int _) (.cons (.int _) .nil))
theorem frD_eqv (p q : Rat) : PyData.eqv (frD p) (frD q) = decide (p = q) := by
  unfold frD
  simp only [PyData.eqv, PyData.eqvAll, Bool.and_true]
  by_cases h : p = q
  · subst h
    simp
  · rw [decide_eq_false h]
    by_cases a : p.num = q.num
    · have b : ¬ p.den = q.den := fun z => h (Rat.ext a z)
      have b' : ¬ (p.den : Int) = q.den := fun z => b (by omega)
      simp [a, b']
    · simp [a]
theorem frD_self (p : Rat) : PyData.eqv (frD p) (frD p) = true := by rw [frD_eqv]; simp
theorem frD_shaped (q : Rat) : SeqAt.shaped (frD q) = true := by
  show (PyData.canLay0 (frD q) && decide (PyData.depth (frD q) ≤ 64)) = true
  unfold frD
  simp [PyData.canLay0, PyData.canLayAll0, PyData.depth, PyData.depthAll]
theorem frD_tb {q : Rat} {n : Nat} (h : Sz n q) (hn : n ≤ 1900) : Tb 1 2 (frD q) := by
  have up : 2 ^ n ≤ 2 ^ 1900 := Nat.pow_le_pow_right (by decide) hn
  have h1 := h.top
  have h2 := h.bot
  have h3 : ((q.den : Int)).natAbs < 2 ^ 1900 := by rw [denA]; omega
  exact (TbAll.cons (tb_int (by omega)) (.cons (tb_int h3) .nil)).tuple
theorem qD_shaped (p q : Rat) : SeqAt.shaped (qD p q) = true := by
  unfold qD
  by_cases h : q = 0
  · rw [if_pos h]
    simp [SeqAt.shaped, PyData.canLay0, PyData.depth]
    decide +kernel
  · rw [if_neg h]
    exact frD_shaped _
theorem qD_tb {p q : Rat} {n : Nat} (h1 : Sz n p) (h2 : Sz n q) (hn : n ≤ 900) : Tb 1 6 (qD p q) := by
  unfold qD
  by_cases h : q = 0
  · rw [if_pos h]
    exact (tb_str (by decide) (by decide)).more (by decide) (Nat.le_refl _)
  · rw [if_neg h]
    exact (frD_tb (h1.div h2 h) (by omega)).more (by decide) (by decide)
/-- a quotient, or the word -/
def sp_quot (K : PySem.W.Frag) : Sp := fun vs H Q _ => ∃ (a b : Addr) (p q : Rat), vs = [.ref a, .ref b] ∧ Fr K H a p ∧ Fr K H b q ∧ Sz 900 p ∧ Sz 900 q ∧ ∀ v H', Same H H' → Dp K H' v (qD p q) → (q ≠ 0 → ∃ r, v = .ref r ∧ Fr K H' r (p / q)) → Q v H'
abbrev sp_divided := sp_quot
abbrev sp_quotient := sp_quot
theorem two_le {m n : Nat} {x : Int} (h : x < 2 ^ m) (h0 : 0 ≤ x) (l : m ≤ n) : x.natAbs < 2 ^ n := by
  have a : x.natAbs < 2 ^ m := by
    have : (x.natAbs : Int) < ((2 ^ m : Nat) : Int) := by
      rw [Int.natAbs_of_nonneg h0]
      simpa using h
    exact Int.ofNat_lt.mp this
  exact Nat.lt_of_lt_of_le a (Nat.pow_le_pow_right (by decide) l)
section
variable {P : Program} {w : World} {K : PySem.W.Frag} {mg : Str → Option Value} {base : Heap} {C_InvalidSize C_InvalidFraction C_BlankError : Addr}
theorem sc_common : FnScope ["one", "other", "step"] ["one", "other"] (defScope s_common) := ⟨rfl, rfl, rfl, by decide +kernel, rfl, by decide +kernel, by decide +kernel⟩
theorem ok_common (D : Def K mg "_law_common" s_common ["one", "other"]) (n_int : mg "int" = none) (n_abs : mg "abs" = none) (n_range : mg "range" = none) : Cal P w K mg base CX0 1 "_law_common" s_common ["one", "other"] (sp_common K) := by
  refine D.ok sc_common (fun vs H Q E h => ?_) (fun cdv f A outer s H vs Q E hr h => ?_)
  · obtain ⟨a, b, rfl, _⟩ := h
    rfl
  obtain ⟨a, b, rfl, la, lb, k⟩ := h
  refine ⟨_, (pss_cons (ps_par (i := 0) (j := 1) rfl sc_common.nd rfl rfl (by decide) rfl rfl (pa_cons (pe_callB call_abs (by rfl) n_abs (by decide +kernel) (pa_cons (pe_callTy call_int1 (by rfl) n_int (by decide +kernel) (pa_cons (pv 0) pa_nil)) pa_nil)) (pa_cons (pe_callB call_abs (by rfl) n_abs (by decide +kernel) (pa_cons (pe_callTy call_int1 (by rfl) n_int (by decide +kernel) (pa_cons (pv 1) pa_nil)) pa_nil)) pa_nil)) (by rfl))
    (pss_cons (ps_for PassesOwn.never rfl (pi_range1 rfl n_range (pa_cons pe_int pa_nil)) (pg_name (i := 2) sc_common.nd rfl (Or.inl rfl)) (pss_cons (ps_if (pt_cmpR op_eq (pv 1) pe_int (nomark _)) (pss_one ps_break) pss_nil)
      (pss_one (ps_par (i := 0) (j := 1) rfl sc_common.nd rfl rfl (by decide) rfl rfl (pa_cons (pv 1) (pa_cons (pe_op op_mod (pe_callTy call_int1 (by rfl) n_int (by decide +kernel) (pa_cons (pv 0) pa_nil)) (pv 1)) pa_nil)) (by rfl)))))
    (pss_one (ps_ret (pv 0))))), ?_⟩
  have abs_ : ∀ x : Int, (if x < 0 then -x else x) = (x.natAbs : Int) := fun x => by split <;> omega
  refine ⟨_, rfl, .inl ⟨a, rfl, a, rfl, _, rfl, .inl ⟨b, rfl, b, rfl, _, _, rfl, ?_⟩⟩⟩
  rw [abs_, abs_]
  refine ⟨9000, rfl, by decide, by decide, for_range (n := 9000) (fun i σ H' => ∃ (x y : Nat) (v : Option V), σ = [some (.int (x : Int)), some (.int (y : Int)), v] ∧ H' = H ∧ Euc a.natAbs b.natAbs 4000 i x y) ⟨_, _, none, rfl, rfl, rfl, fun _ => ⟨rfl, rfl⟩, fun z => absurd z (by omega)⟩ ?_ ?_⟩
  · rintro i σ H' hi ⟨x, y, v, rfl, rfl, e⟩
    refine ⟨_, rfl, rfl, _, rfl, ?_⟩
    refine ite2 (fun h => ?_) (fun h => ?_)
    · have y0 : y = 0 := by
        have := V.int.inj (of_decide_eq_true h)
        omega
      subst y0
      refine ⟨_, rfl, ?_⟩
      rw [← euc_done e] at k
      exact k
    · have y0 : y ≠ 0 := fun z => h (decide_eq_true (by rw [z]; rfl))
      refine ⟨_, rfl, _, rfl, .inl ⟨_, rfl, _, rfl, _, _, rfl, rfl, (by show (0 : Int) < y; omega), _, _, rfl, ?_⟩⟩
      exact ⟨y, x % y, _, rfl, rfl, euc_step e lb y0⟩
  · rintro σ H' ⟨x, y, v, rfl, rfl, e⟩
    have y0 := euc_end e (by decide)
    subst y0
    refine ⟨_, rfl, ?_⟩
    rw [← euc_done e] at k
    exact k
theorem sc_low : FnScope ["top", "bottom", "common"] ["top", "bottom"] (defScope s_low) := ⟨rfl, rfl, rfl, by decide +kernel, rfl, by decide +kernel, by decide +kernel⟩
theorem ok_low (D : Def K mg "_law_low" s_low ["top", "bottom"]) (C_common : Cal P w K mg base CX0 1 "_law_common" s_common ["one", "other"] (sp_common K)) (n_int : mg "int" = none) : Cal P w K mg base CX0 2 "_law_low" s_low ["top", "bottom"] (sp_low K) := by
  refine D.ok sc_low (fun vs H Q E h => ?_) (fun cdv f A outer s H vs Q E hr h => ?_)
  · obtain ⟨t, b, q, rfl, _⟩ := h
    rfl
  obtain ⟨t, b, q, rfl, b0, lt, lb, eq, k⟩ := h
  refine ⟨_, (pss_cons (ps_set (i := 2) sc_low.nd rfl (Or.inl rfl) (pe_cal C_common (hr.mono (by decide)) (by rfl) pass0 (pa_cons (pv 0) (pa_cons (pv 1) pa_nil))))
    (pss_one (ps_ret (pe_tup (pa_cons (pe_op op_fdivW (pe_callTy call_int1 (by rfl) n_int (by decide +kernel) (pa_cons (pv 0) pa_nil)) (pv 2)) (pa_cons (pe_op op_fdivW (pe_callTy call_int1 (by rfl) n_int (by decide +kernel) (pa_cons (pv 1) pa_nil)) (pv 2)) pa_nil)))))), ?_⟩
  have gp : 0 < Nat.gcd t.natAbs b.natAbs := Nat.gcd_pos_of_pos_right _ (by omega)
  have gl : ((Nat.gcd t.natAbs b.natAbs : Nat) : Int).natAbs < 2 ^ 4000 := by
    rw [Int.natAbs_natCast]
    exact Nat.lt_of_le_of_lt (Nat.gcd_le_right _ (by omega)) lb
  obtain ⟨e1, e2⟩ := low_val t b b0
  refine ⟨_, rfl, _, rfl, t, b, rfl, lt, lb, ?_⟩
  refine ⟨_, rfl, .inl ⟨_, rfl, _, rfl, _, _, rfl, rfl, wide_div (by omega) gl (by decide) (by decide), ?_⟩⟩
  refine ⟨_, rfl, .inl ⟨_, rfl, _, rfl, _, _, rfl, rfl, wide_div (by omega) gl (by decide) (by decide), (by show 2 ≤ sizeLine; decide), fun p hp => ?_⟩⟩
  refine k p _ (new_same hp) ?_
  rw [← eq]
  unfold Fr fr
  rw [← e1, ← e2]
  exact SqT.of upd_same
theorem sc_sgn : FnScope ["number"] ["number"] (defScope s_sgn) := ⟨rfl, rfl, rfl, by decide +kernel, rfl, by decide +kernel, by decide +kernel⟩
theorem ok_sgn (D : Def K mg "_law_sign" s_sgn ["number"])  : Cal P w K mg base CX0 1 "_law_sign" s_sgn ["number"] (sp_sgn K) := by
  refine D.ok sc_sgn (fun vs H Q E h => ?_) (fun cdv f A outer s H vs Q E hr h => ?_)
  · obtain ⟨n, rfl, _⟩ := h
    rfl
  obtain ⟨n, rfl, k⟩ := h
  refine ⟨_, (pss_one (ps_ret (pe_ifExp (pt_cmpR op_gt (pv 0) pe_int (nomark _)) pe_int (pe_ifExp (pt_cmpR op_eq (pv 0) pe_int (nomark _)) pe_int (pe_un un_neg pe_int))))), ?_⟩
  refine ⟨_, rfl, _, _, rfl, rfl, _, rfl, ?_⟩
  unfold sgnI at k
  refine ite2 (fun h => ?_) (fun h => ?_)
  · rw [if_pos (of_decide_eq_true h)] at k
    exact k
  · rw [if_neg fun z => h (decide_eq_true z)] at k
    refine ⟨_, rfl, rfl, _, rfl, ?_⟩
    refine ite2 (fun h => ?_) (fun h => ?_)
    · rw [if_pos (V.int.inj (of_decide_eq_true h))] at k
      exact k
    · rw [if_neg fun z => h (decide_eq_true (by rw [z]))] at k
      exact ⟨_, rfl, k⟩
theorem sc_quotient : FnScope ["one", "other", "top", "bottom"] ["one", "other"] (defScope s_quotient) := ⟨rfl, rfl, rfl, by decide +kernel, rfl, by decide +kernel, by decide +kernel⟩
theorem ok_quotient (D : Def K mg "_law_quotient" s_quotient ["one", "other"]) (C_low : Cal P w K mg base CX0 2 "_law_low" s_low ["top", "bottom"] (sp_low K)) : Cal P w K mg base CX0 3 "_law_quotient" s_quotient ["one", "other"] (sp_quotient K) := by
  refine D.ok sc_quotient (fun vs H Q E h => ?_) (fun cdv f A outer s H vs Q E hr h => ?_)
  · obtain ⟨a, b, p, q, rfl, _⟩ := h
    rfl
  obtain ⟨a, b, p, q, rfl, hp, hq, zp, zq, k⟩ := h
  refine ⟨_, (pss_cons (ps_par (i := 2) (j := 3) rfl sc_quotient.nd rfl rfl (by decide) rfl rfl (pa_cons (pe_op op_mulW (pe_ix ix_tup (pv 0) pe_int (fun _ _ => rfl)) (pe_ix ix_tup (pv 1) pe_int (fun _ _ => rfl))) (pa_cons (pe_op op_mulW (pe_ix ix_tup (pv 0) pe_int (fun _ _ => rfl)) (pe_ix ix_tup (pv 1) pe_int (fun _ _ => rfl))) pa_nil)) (by rfl))
    (pss_cons (ps_if (pt_cmpR op_eq (pv 3) pe_int (nomark _)) (pss_one (ps_ret pe_str)) pss_nil)
    (pss_one (ps_ret (pe_ifExp (pt_cmpR op_gt (pv 3) pe_int (nomark _)) (pe_cal C_low (hr.mono (by decide)) (by rfl) pass0 (pa_cons (pv 2) (pa_cons (pv 3) pa_nil))) (pe_cal C_low (hr.mono (by decide)) (by rfl) pass0 (pa_cons (pe_op op_sub pe_int (pv 2)) (pa_cons (pe_op op_sub pe_int (pv 3)) pa_nil)))))))), ?_⟩
  have m9 : ∀ {i j : Int}, i.natAbs < 2 ^ 900 → j.natAbs < 2 ^ 900 → CMulW i j := fun h1 h2 => wide_mul h1 h2 (by decide) (by decide) (by decide)
  refine ⟨_, rfl, a, fr p, 0, _, rfl, rfl, hp, at0 p, _, rfl, b, fr q, 1, _, rfl, rfl, hq, at1 q, _, _, rfl, rfl, m9 zp.top (sz_den zq), ?_⟩
  refine ⟨_, rfl, a, fr p, 1, _, rfl, rfl, hp, at1 p, _, rfl, b, fr q, 0, _, rfl, rfl, hq, at0 q, _, _, rfl, rfl, m9 (sz_den zp) zq.top, _, _, rfl, ?_⟩
  have l1 : (p.num * (q.den : Int)).natAbs < 2 ^ 4000 := Nat.lt_of_lt_of_le (lt_mulI zp.top (sz_den zq)) (Nat.pow_le_pow_right (by decide) (by decide))
  have l2 : ((p.den : Int) * q.num).natAbs < 2 ^ 4000 := Nat.lt_of_lt_of_le (lt_mulI (sz_den zp) zq.top) (Nat.pow_le_pow_right (by decide) (by decide))
  have dp : (0 : Int) < p.den := by
    have := p.den_pos
    omega
  refine ⟨_, rfl, rfl, _, rfl, ?_⟩
  refine ite2 (fun h => ?_) (fun h => ?_)
  · have z := V.int.inj (of_decide_eq_true h)
    have q0 : q = 0 := by
      refine Rat.num_eq_zero.mp ?_
      rcases Int.mul_eq_zero.mp z with z | z
      · omega
      · exact z
    refine k _ _ (Same.refl _) ?_ fun n => absurd q0 n
    unfold qD
    rw [if_pos q0]
    exact .str _
  have z : (p.den : Int) * q.num ≠ 0 := fun z => h (decide_eq_true (show V.int ((p.den : Int) * q.num) = V.int 0 by rw [z]))
  have q0 : q ≠ 0 := fun e => z (by rw [e]; simp)
  have k2 : ∀ r H', Same H H' → Fr K H' r (p / q) → Q (.ref r) H' := fun r H' s hr => k _ _ s (by
    unfold qD
    rw [if_neg q0]
    exact hr.dp) fun _ => ⟨r, rfl, hr⟩
  refine ⟨_, rfl, _, _, rfl, rfl, _, rfl, ?_⟩
  refine ite2 (fun h => ?_) (fun h => ?_)
  · exact ⟨_, rfl, _, rfl, _, _, _, rfl, of_decide_eq_true h, l1, l2, div_val p q, k2⟩
  · have neg : ¬ (p.den : Int) * q.num > 0 := fun z => h (decide_eq_true z)
    refine ⟨_, rfl, _, _, rfl, rfl, _, rfl, _, _, rfl, rfl, _, _, _, rfl, by omega, by omega, by omega, ?_, k2⟩
    rw [neg_divInt, div_val]
theorem sc_divided : FnScope ["one", "other", "e"] ["one", "other"] (defScope s_divided) := ⟨rfl, rfl, rfl, by decide +kernel, rfl, by decide +kernel, by decide +kernel⟩
theorem ok_divided (D : Def K mg "_law_divided" s_divided ["one", "other"]) (C_over : Cal P w K mg base (L2.CX P w) 4 "over" s_over ["one", "other"] (spOver K C_InvalidSize)) (Z_BlankError : ErrB K mg "BlankError" C_BlankError topB) (n_isinstance : mg "isinstance" = none) (Z_InvalidFraction : Err P w K mg base "InvalidFraction" "at" C_InvalidFraction (topE C_BlankError)) (Z_InvalidSize : Err P w K mg base "InvalidSize" "word" C_InvalidSize (topE C_BlankError)) (ne_SF : C_InvalidSize ≠ C_InvalidFraction) (ne_FB : C_InvalidFraction ≠ C_BlankError) : Cal P w K mg base CX0 5 "_law_divided" s_divided ["one", "other"] (sp_divided K) := by
  refine D.ok sc_divided (fun vs H Q E h => ?_) (fun cdv f A outer s H vs Q E hr h => ?_)
  · obtain ⟨a, b, p, q, rfl, _⟩ := h
    rfl
  obtain ⟨a, b, p, q, rfl, hp, hq, zp, zq, k⟩ := h
  refine ⟨_, (pss_one (ps_try_as (i := 2) rfl rfl sc_divided.nd rfl rfl ⟨rfl, by decide, .inl Z_InvalidSize.g⟩ takes0 (fun W pn xe tk _ => (pss_one (ps_ret (pe_calS C_over (hr.mono (by decide)) (by rfl) (fun σ => passAt tk σ) (pa_cons (pv 0) (pa_cons (pv 1) pa_nil)))))) (fun a oe cls d pn hz hf => (pss_one (ps_ret (pe_ifExp (PW.pt (pw_and (pt_val (pe_callB (call_isX hz hf) (by rfl) n_isinstance (by decide +kernel) (pa_cons (pv 2) (pa_cons (pe_glob (by rfl) Z_BlankError.g (show RelV (.ref C_BlankError) (.ref C_BlankError) from rfl)) pa_nil)))) (pw_and1 (pt_not (pt_val (pe_callB (call_isX hz hf) (by rfl) n_isinstance (by decide +kernel) (pa_cons (pv 2) (pa_cons (pe_glob (by rfl) Z_InvalidFraction.g (show RelV (.ref C_InvalidFraction) (.ref C_InvalidFraction) from rfl)) pa_nil)))))))) (pe_errF hz hf (pv 2)) pe_str)))))), ?_⟩
  refine ⟨_, rfl, _, rfl, a, b, p, q, rfl, hp, hq, zp.mono (by decide), zq.mono (by decide), fun nz r hr => k _ _ (new_same hr) ?_ fun _ => ⟨r, rfl, Fr.new⟩, fun z dx hdx => ?_⟩
  · unfold qD
    rw [if_neg nz]
    exact Fr.new.dp
  refine ⟨true, Z_InvalidSize.exm_self rfl, fun _ ae hae => ?_, fun q => nomatch q⟩
  have atd : upd H dx (.xd [("word", .str "bottom")]) dx = some (.xd [("word", .str "bottom")]) := upd_same
  refine ⟨_, rfl, C_InvalidSize, _, _, true, rfl, rfl, (fun dd e => by cases e; exact ⟨_, atd⟩), Z_InvalidSize.T, .own _, Z_InvalidSize.is_base Z_BlankError, _, rfl, ?_⟩
  refine iteT ?_
  refine ⟨_, rfl, C_InvalidSize, _, _, false, rfl, rfl, (fun dd e => by cases e; exact ⟨_, atd⟩), Z_InvalidSize.T, .own _, Z_InvalidSize.isnt Z_InvalidFraction ne_SF ne_FB, _, rfl, ?_⟩
  refine iteT ?_
  refine ⟨_, rfl, rfl, C_InvalidSize, dx, _, rfl, rfl, Z_InvalidSize.T, Z_InvalidSize.no, atd, k _ _ (new_same hdx) ?_ fun n => absurd z n⟩
  unfold qD
  rw [if_pos z]
  exact .str _
theorem seqT_off {H : Hp} {d c a : Addr} {xs : List V} (D : Deal H d c) (h : SqT K H a xs) : SqT K (off H d c) a xs := by
  obtain ⟨cs, mix, h1, h2, _⟩ := D.ex
  rcases h with h | h
  · have n1 : a ≠ d := by
      rintro rfl
      rcases h with h | ⟨o, h⟩ <;> · rw [h1] at h; cases h
    have n2 : a ≠ c := by
      rintro rfl
      rcases h with h | ⟨o, h⟩ <;> · rw [h2] at h; cases h
    rcases h with h | ⟨o, h⟩
    · exact .inl (.inl ((off_at n1 n2).trans h))
    · exact .inl (.inr ⟨o, (off_at n1 n2).trans h⟩)
  · exact .inr h
theorem lt300 {g : Int} {N : Nat} (h : g ≤ N) (hN : N < 2 ^ 200) : g < 2 ^ 300 := by
  have a : ((N : Nat) : Int) < ((2 ^ 200 : Nat) : Int) := Int.ofNat_lt.mpr hN
  have b : ((2 ^ 200 : Nat) : Int) < 2 ^ 300 := by decide
  omega
theorem sc_size : FnScope ["deal", "great", "number"] ["deal", "great"] (defScope s_size) := ⟨rfl, rfl, rfl, by decide +kernel, rfl, by decide +kernel, by decide +kernel⟩
theorem ok_size (D : Def K mg "_law_size" s_size ["deal", "great"]) (C_of : Cal P w K mg base CX0 2 "_law_of" s_of ["deal", "some"] (spOf K)) (C_any : Cal P w K mg base CX0 1 "_law_any" s_any ["deal", "bound"] spAny) : Cal P w K mg base CX0 3 "_law_size" s_size ["deal", "great"] (sp_size K) := by
  refine D.ok sc_size (fun vs H Q E h => ?_) (fun cdv f A outer s H vs Q E hr h => ?_)
  · obtain ⟨d, c, g, N, rfl, _⟩ := h
    rfl
  obtain ⟨d, c, g, N, rfl, D0, g0, gN, mN, lN, k⟩ := h
  refine ⟨_, (pss_cons (ps_set (i := 2) sc_size.nd rfl (Or.inl rfl) (pe_cal C_of (hr.mono (by decide)) (by rfl) pass0 (pa_cons (pv 0) (pa_cons (pe_lst (pa_cons pe_int (pa_cons pe_int (pa_cons pe_int (pa_cons pe_int (pa_cons pe_int (pa_cons (pe_cal C_any (hr.mono (by decide)) (by rfl) pass0 (pa_cons (pv 0) (pa_cons pe_int pa_nil))) (pa_cons (pe_cal C_any (hr.mono (by decide)) (by rfl) pass0 (pa_cons (pv 0) (pa_cons pe_int pa_nil))) (pa_cons (pe_cal C_any (hr.mono (by decide)) (by rfl) pass0 (pa_cons (pv 0) (pa_cons (pe_op op_pow pe_int pe_int) pa_nil))) (pa_cons (pe_op op_sub (pe_op op_sub (pv 1) pe_int) (pe_cal C_any (hr.mono (by decide)) (by rfl) pass0 (pa_cons (pv 0) (pa_cons (pv 1) pa_nil)))) pa_nil)))))))))) pa_nil))))
    (pss_one (ps_ret (pe_ifExp (pt_cmpR op_eq (pe_cal C_any (hr.mono (by decide)) (by rfl) pass0 (pa_cons (pv 0) (pa_cons pe_int pa_nil))) pe_int (nomark _)) (pe_op op_sub pe_int (pv 2)) (pv 2))))), ?_⟩
  refine ⟨_, rfl, _, rfl, d, c, 13, rfl, D0, by decide, by decide, fun r1 H1 a0 a1 D1 S1 => ?_⟩
  refine ⟨_, rfl, d, c, 100, rfl, D1, by decide, by decide, fun r2 H2 b0 b1 D2 S2 => ?_⟩
  refine ⟨_, rfl, _, _, rfl, rfl, ⟨by decide, by decide, by decide⟩, d, c, 10 ^ 6, rfl, D2, by decide, by decide, fun r3 H3 c0 c1 D3 S3 => ?_⟩
  refine ⟨_, rfl, _, _, rfl, rfl, _, rfl, _, rfl, d, c, g, rfl, D3, g0, lt300 gN lN, fun r4 H4 e0 e1 D4 S4 => ?_⟩
  refine ⟨_, _, rfl, rfl, (by show 9 ≤ sizeLine; decide), fun l hl => ?_⟩
  have Sl := new_same (o := .lst [.int 0, .int 1, .int 1, .int 2, .int 3, .int r1, .int r2, .int r3, .int (g - 1 - r4)]) hl
  have D5 := D4.same Sl
  have fr_ := D4.free hl
  refine ⟨d, c, .ref l, rfl, D5, .inl ⟨l, _, rfl, SqL.of (off_new fr_.1 fr_.2), by simp, (by show _ ≤ 1000; simp), fun v H5 hv D6 S6 => ?_⟩⟩
  obtain ⟨x, rfl, hx⟩ : ∃ x : Int, v = .int x ∧ x.natAbs ≤ N := by
    simp only [List.mem_cons, List.not_mem_nil, or_false] at hv
    rcases hv with rfl | rfl | rfl | rfl | rfl | rfl | rfl | rfl | rfl <;> exact ⟨_, rfl, by omega⟩
  have S7 := ((((S1.trans S2).trans S3).trans S4).trans (off_mono Sl)).trans S6
  refine ⟨_, rfl, d, c, 2, rfl, D6, by decide, by decide, fun r5 H6 f0 f1 D7 S8 => ?_⟩
  refine ⟨rfl, _, rfl, ?_⟩
  refine ite2 (fun h => ?_) (fun h => ?_)
  · exact ⟨_, rfl, _, _, rfl, rfl, k _ _ (by omega) D7 (S7.trans S8)⟩
  · exact ⟨_, rfl, k _ _ hx D7 (S7.trans S8)⟩
theorem sc_frac : FnScope ["deal", "great", "top", "bottom"] ["deal", "great"] (defScope s_frac) := ⟨rfl, rfl, rfl, by decide +kernel, rfl, by decide +kernel, by decide +kernel⟩
theorem ok_frac (D : Def K mg "_law_fraction" s_frac ["deal", "great"]) (C_size : Cal P w K mg base CX0 3 "_law_size" s_size ["deal", "great"] (sp_size K)) (n_abs : mg "abs" = none) (C_low : Cal P w K mg base CX0 2 "_law_low" s_low ["top", "bottom"] (sp_low K)) (C_of : Cal P w K mg base CX0 2 "_law_of" s_of ["deal", "some"] (spOf K)) : Cal P w K mg base CX0 4 "_law_fraction" s_frac ["deal", "great"] (sp_frac K) := by
  refine D.ok sc_frac (fun vs H Q E h => ?_) (fun cdv f A outer s H vs Q E hr h => ?_)
  · obtain ⟨d, c, g, N, n, rfl, _⟩ := h
    rfl
  obtain ⟨d, c, g, N, n, rfl, D0, g1, gN, mN, lN, n2, k⟩ := h
  refine ⟨_, (pss_cons (ps_par (i := 2) (j := 3) rfl sc_frac.nd rfl rfl (by decide) rfl rfl (pa_cons (pe_cal C_size (hr.mono (by decide)) (by rfl) pass0 (pa_cons (pv 0) (pa_cons (pv 1) pa_nil))) (pa_cons (pe_op op_add pe_int (pe_callB call_abs (by rfl) n_abs (by decide +kernel) (pa_cons (pe_cal C_size (hr.mono (by decide)) (by rfl) pass0 (pa_cons (pv 0) (pa_cons (pe_op op_sub (pv 1) pe_int) pa_nil))) pa_nil))) pa_nil)) (by rfl))
    (pss_one (ps_ret (pe_cal C_low (hr.mono (by decide)) (by rfl) pass0 (pa_cons (pe_cal C_of (hr.mono (by decide)) (by rfl) pass0 (pa_cons (pv 0) (pa_cons (pe_lst (pa_cons (pv 2) (pa_cons (pv 2) (pa_cons (pv 2) (pa_cons (pv 3) (pa_cons (pe_op op_sub (pv 3) pe_int) (pa_cons (pe_op op_sub pe_int (pv 3)) (pa_cons pe_int pa_nil)))))))) pa_nil))) (pa_cons (pv 3) pa_nil)))))), ?_⟩
  have lN' : N < 2 ^ 200 := Nat.lt_of_lt_of_le lN (Nat.pow_le_pow_right (by decide) n2)
  have abs_ : ∀ x : Int, (if x < 0 then -x else x) = (x.natAbs : Int) := fun x => by split <;> omega
  refine ⟨_, rfl, _, rfl, d, c, g, N, rfl, D0, by omega, gN, mN, lN', fun t H1 ht D1 S1 => ?_⟩
  refine ⟨_, rfl, _, rfl, _, _, rfl, rfl, d, c, g - 1, N, rfl, D1, by omega, by omega, mN, lN', fun b H2 hb D2 S2 => ?_⟩
  refine ⟨_, rfl, _, _, rfl, rfl, _, _, rfl, ?_⟩
  rw [abs_]
  refine ⟨_, rfl, _, rfl, _, rfl, _, rfl, _, rfl, _, rfl, _, _, rfl, rfl, _, rfl, _, _, rfl, rfl, (by show 7 ≤ sizeLine; decide), fun l hl => ?_⟩
  have Sl := new_same (o := .lst [.int t, .int t, .int t, .int (1 + (b.natAbs : Int)), .int ((1 + (b.natAbs : Int)) - 1), .int (0 - (1 + (b.natAbs : Int))), .int 0]) hl
  have D5 := D2.same Sl
  have fr_ := D2.free hl
  refine ⟨d, c, .ref l, rfl, D5, .inl ⟨l, _, rfl, SqL.of (off_new fr_.1 fr_.2), by simp, (by show _ ≤ 1000; simp), fun v H5 hv D6 S6 => ?_⟩⟩
  obtain ⟨x, rfl, hx⟩ : ∃ x : Int, v = .int x ∧ x.natAbs ≤ N + 1 := by
    simp only [List.mem_cons, List.not_mem_nil, or_false] at hv
    rcases hv with rfl | rfl | rfl | rfl | rfl | rfl | rfl <;> exact ⟨_, rfl, by omega⟩
  have S7 := ((S1.trans S2).trans (off_mono Sl)).trans S6
  have e2 : 2 ^ (n + 1) = 2 ^ n + 2 ^ n := by rw [Nat.pow_succ]; omega
  have x1 : x.natAbs < 2 ^ (n + 1) := by omega
  have x2 : (1 + (b.natAbs : Int)).natAbs < 2 ^ (n + 1) := by omega
  have up : 2 ^ (n + 1) ≤ 2 ^ 4000 := Nat.pow_le_pow_right (by decide) (by omega)
  exact ⟨_, rfl, x, 1 + (b.natAbs : Int), _, rfl, by omega, by omega, by omega, rfl, fun p H6 s6 hp => k p _ _ (sz_divInt (by omega) x1 x2) (seqT_off (D6.same s6) hp) (D6.same s6) (S7.trans (off_mono s6))⟩
end
end K02

set_option Elab.async false
set_option linter.all false
set_option maxRecDepth 100000
set_option maxHeartbeats 4000000
namespace K02
open PySem PySem.Spec PyProof.Rows L2 Wb Wf
def spBinS (K : PySem.W.Frag) (op : Rat → Rat → Rat) : Sp := fun vs H Q _ => ∃ (a b : Addr) (p q : Rat), vs = [.ref a, .ref b] ∧ Fr K H a p ∧ Fr K H b q ∧ Sz 3000 p ∧ Sz 3000 q ∧ ∀ r H', Same H H' → Fr K H' r (op p q) → Q (.ref r) H'
theorem spBinS.of {K : PySem.W.Frag} {op : Rat → Rat → Rat} {vs : List V} {H : Hp} {Q : VK} {E : XK} (h : spBinS K op vs H Q E) : spBin K op vs H Q E := by
  obtain ⟨a, b, p, q, rfl, hp, hq, zp, zq, k⟩ := h
  exact ⟨a, b, p, q, rfl, hp, hq, zp, zq, fun r hr => k r _ (new_same hr) Fr.new⟩
/-- True, whatever has been made -/
def Yes (H : Hp) (Q : VK) : Prop := ∀ H', Same H H' → Q (.bl true) H'
def sp_pair (K : PySem.W.Frag) : Sp := fun vs H Q _ => ∃ (a b : Addr) (p q : Rat), vs = [.ref a, .ref b] ∧ Fr K H a p ∧ Fr K H b q ∧ Sz 210 p ∧ Sz 210 q ∧ Yes H Q
def sp_oner (K : PySem.W.Frag) : Sp := fun vs H Q _ => ∃ (a : Addr) (p : Rat), vs = [.ref a] ∧ Fr K H a p ∧ Sz 210 p ∧ Yes H Q
def sp_undone (K : PySem.W.Frag) : Sp := fun vs H Q _ => ∃ (a b c : Addr) (p q r : Rat), vs = [.ref a, .ref b, .ref c] ∧ Fr K H a p ∧ Fr K H b q ∧ Fr K H c r ∧ Sz 210 p ∧ Sz 210 q ∧ Sz 210 r ∧ Yes H Q
theorem cmpR_sgn (p q : Rat) : cmpR p q = sgnI (p.num * q.den - q.num * p.den) := by
  unfold cmpR cmpI sgnI
  by_cases a : p.num * (q.den : Int) > q.num * (p.den : Int)
  · rw [if_pos a, if_neg (by omega), if_pos (by omega)]
    rfl
  · rw [if_neg a]
    by_cases b : p.num * (q.den : Int) < q.num * (p.den : Int)
    · rw [if_pos b, if_neg (by omega), if_neg (by omega)]
      rfl
    · rw [if_neg b, if_neg (by omega), if_pos (by omega)]
      rfl
theorem cmpR_swap (p q : Rat) : cmpR q p = 0 - cmpR p q := by
  unfold cmpR cmpI
  by_cases a : p.num * (q.den : Int) > q.num * (p.den : Int)
  · rw [if_neg (show ¬ q.num * (p.den : Int) > p.num * (q.den : Int) by omega), if_pos (show q.num * (p.den : Int) < p.num * (q.den : Int) by omega)]
    rfl
  · by_cases b : p.num * (q.den : Int) < q.num * (p.den : Int)
    · rw [if_pos (show q.num * (p.den : Int) > p.num * (q.den : Int) by omega), if_neg (show ¬ q.num * (p.den : Int) < p.num * (q.den : Int) by omega)]
      rfl
    · rw [if_neg (show ¬ q.num * (p.den : Int) > p.num * (q.den : Int) by omega), if_neg (show ¬ q.num * (p.den : Int) < p.num * (q.den : Int) by omega)]
      rfl
theorem cmpR_small (p q : Rat) : (cmpR p q).natAbs < 2 ^ 1900 := by
  rw [cmpR_eq]
  have h : (1 : Nat) < 2 ^ 1900 := Nat.one_lt_two_pow (by decide)
  split
  · exact h
  · split
    · exact h
    · exact Nat.lt_trans (by decide) h
theorem kw_plus : Kw "plus" s_plus ["one", "other"] ["other", "one"] [1, 0] := ⟨rfl, fun _ _ _ _ _ _ _ ws hl => match ws, hl with | [_, _], _ => .of_eq rfl⟩
theorem kw_minus : Kw "minus" s_minus ["one", "other"] ["other", "one"] [1, 0] := ⟨rfl, fun _ _ _ _ _ _ _ ws hl => match ws, hl with | [_, _], _ => .of_eq rfl⟩
theorem kw_times : Kw "times" s_times ["one", "other"] ["other", "one"] [1, 0] := ⟨rfl, fun _ _ _ _ _ _ _ ws hl => match ws, hl with | [_, _], _ => .of_eq rfl⟩
theorem kw_over : Kw "over" s_over ["one", "other"] ["other", "one"] [1, 0] := ⟨rfl, fun _ _ _ _ _ _ _ ws hl => match ws, hl with | [_, _], _ => .of_eq rfl⟩
theorem kw_compared : Kw "compared" s_compared ["one", "other"] ["other", "one"] [1, 0] := ⟨rfl, fun _ _ _ _ _ _ _ ws hl => match ws, hl with | [_, _], _ => .of_eq rfl⟩
theorem kw_signOf : Kw "sign_of" s_signOf ["one"] ["one"] [0] := ⟨rfl, fun _ _ _ _ _ _ _ ws hl => match ws, hl with | [_], _ => .of_eq rfl⟩
section
variable {P : Program} {w : World} {K : PySem.W.Frag} {mg : Str → Option Value} {base : Heap} {C_InvalidSize C_InvalidFraction C_BlankError : Addr}
theorem sc_pair : FnScope ["one", "other", "a", "b", "c", "d", "shown", "due", "way"] ["one", "other"] (defScope s_pair) := ⟨rfl, rfl, rfl, by decide +kernel, rfl, by decide +kernel, by decide +kernel⟩
theorem ok_pair (D : Def K mg "_law_pair_right" s_pair ["one", "other"]) (n_repr : mg "repr" = none) (C_low : Cal P w K mg base CX0 2 "_law_low" s_low ["top", "bottom"] (sp_low K)) (C_quotient : Cal P w K mg base CX0 3 "_law_quotient" s_quotient ["one", "other"] (sp_quotient K)) (C_plus : Cal P w K mg base CX0 4 "plus" s_plus ["one", "other"] (spBinS K (· + ·))) (C_minus : Cal P w K mg base CX0 4 "minus" s_minus ["one", "other"] (spBinS K (· - ·))) (C_times : Cal P w K mg base CX0 4 "times" s_times ["one", "other"] (spBinS K (· * ·))) (C_divided : Cal P w K mg base CX0 5 "_law_divided" s_divided ["one", "other"] (sp_divided K)) (C_over : Cal P w K mg base (L2.CX P w) 4 "over" s_over ["one", "other"] (spOver K C_InvalidSize)) (C_sgn : Cal P w K mg base CX0 1 "_law_sign" s_sgn ["number"] (sp_sgn K)) (C_compared : Cal P w K mg base CX0 1 "compared" s_compared ["one", "other"] (spCmp K)) : CalG P w K mg base CX0 6 "_law_pair_right" s_pair ["one", "other"] (sp_pair K) := by
  refine D.okG sc_pair (fun vs H Q E h => ?_) (fun cdv f A outer s H vs Q E gd hr h => ?_)
  · obtain ⟨a, b, p, q, rfl, _⟩ := h
    rfl
  obtain ⟨a, b, p, q, rfl, hp, hq, zp, zq, k⟩ := h
  refine ⟨_, (pss_cons (ps_asg (pe_tup (pa_cons (pv 0) (pa_cons (pv 1) pa_nil))) (pg_tup rfl (pgs_cons (pg_tup rfl (pgs_cons (pg_name (i := 2) sc_pair.nd rfl (Or.inl rfl)) (pgs_cons (pg_name (i := 3) sc_pair.nd rfl (Or.inl rfl)) pgs_nil))) (pgs_cons (pg_tup rfl (pgs_cons (pg_name (i := 4) sc_pair.nd rfl (Or.inl rfl)) (pgs_cons (pg_name (i := 5) sc_pair.nd rfl (Or.inl rfl)) pgs_nil))) pgs_nil))))
    (pss_cons (ps_set (i := 6) sc_pair.nd rfl (Or.inl rfl) (pe_callB (call_show gd hr.units) (by rfl) n_repr (by decide +kernel) (pa_cons (pe_lst (pa_cons (pv 0) (pa_cons (pv 1) pa_nil))) pa_nil)))
    (pss_cons (ps_set (i := 7) sc_pair.nd rfl (Or.inl rfl) (pe_lst (pa_cons (pe_cal C_low (hr.mono (by decide)) (by rfl) pass0 (pa_cons (pe_op op_add (pe_op op_mulW (pv 2) (pv 5)) (pe_op op_mulW (pv 4) (pv 3))) (pa_cons (pe_op op_mulW (pv 3) (pv 5)) pa_nil))) (pa_cons (pe_cal C_low (hr.mono (by decide)) (by rfl) pass0 (pa_cons (pe_op op_sub (pe_op op_mulW (pv 2) (pv 5)) (pe_op op_mulW (pv 4) (pv 3))) (pa_cons (pe_op op_mulW (pv 3) (pv 5)) pa_nil))) (pa_cons (pe_cal C_low (hr.mono (by decide)) (by rfl) pass0 (pa_cons (pe_op op_mulW (pv 2) (pv 4)) (pa_cons (pe_op op_mulW (pv 3) (pv 5)) pa_nil))) (pa_cons (pe_cal C_quotient (hr.mono (by decide)) (by rfl) pass0 (pa_cons (pv 0) (pa_cons (pv 1) pa_nil))) pa_nil))))))
    (pss_cons (ps_if (pt_cmpR op_ne (pe_callB (call_show gd hr.units) (by rfl) n_repr (by decide +kernel) (pa_cons (pe_lst (pa_cons (pe_cal C_plus (hr.mono (by decide)) (by rfl) pass0 (pa_cons (pv 0) (pa_cons (pv 1) pa_nil))) (pa_cons (pe_cal C_minus (hr.mono (by decide)) (by rfl) pass0 (pa_cons (pv 0) (pa_cons (pv 1) pa_nil))) (pa_cons (pe_cal C_times (hr.mono (by decide)) (by rfl) pass0 (pa_cons (pv 0) (pa_cons (pv 1) pa_nil))) (pa_cons (pe_cal C_divided (hr.mono (by decide)) (by rfl) pass0 (pa_cons (pv 0) (pa_cons (pv 1) pa_nil))) pa_nil))))) pa_nil)) (pe_callB (call_show gd hr.units) (by rfl) n_repr (by decide +kernel) (pa_cons (pv 7) pa_nil)) (nomark _)) (pss_one (ps_ret pe_bl)) pss_nil)
    (pss_cons (ps_if (PW.pt (pw_or (pt_cmpR (op_neD hr.units) (pe_calK C_plus (hr.mono (by decide)) (by rfl) pass0 kw_plus (pk_cons (pv 1) (pk_cons (pv 0) pk_nil))) (pe_ix ix_list (pv 7) pe_int (fun _ _ => rfl)) (nomark _)) (pw_or (pt_cmpR (op_neD hr.units) (pe_calK C_minus (hr.mono (by decide)) (by rfl) pass0 kw_minus (pk_cons (pv 1) (pk_cons (pv 0) pk_nil))) (pe_ix ix_list (pv 7) pe_int (fun _ _ => rfl)) (nomark _)) (pw_or1 (pt_cmpR (op_neD hr.units) (pe_calK C_times (hr.mono (by decide)) (by rfl) pass0 kw_times (pk_cons (pv 1) (pk_cons (pv 0) pk_nil))) (pe_ix ix_list (pv 7) pe_int (fun _ _ => rfl)) (nomark _)))))) (pss_one (ps_ret pe_bl)) pss_nil)
    (pss_cons (ps_if (PW.pt (pw_and (pt_cmpR op_ne (pv 4) pe_int (nomark _)) (pw_and1 (pt_cmpR (op_neD hr.units) (pe_calK C_over.quiet (hr.mono (by decide)) (by rfl) pass0 kw_over (pk_cons (pv 1) (pk_cons (pv 0) pk_nil))) (pe_ix ix_list (pv 7) pe_int (fun _ _ => rfl)) (nomark _))))) (pss_one (ps_ret pe_bl)) pss_nil)
    (pss_cons (ps_set (i := 8) sc_pair.nd rfl (Or.inl rfl) (pe_cal C_sgn (hr.mono (by decide)) (by rfl) pass0 (pa_cons (pe_op op_sub (pe_op op_mulW (pv 2) (pv 5)) (pe_op op_mulW (pv 4) (pv 3))) pa_nil)))
    (pss_one (ps_ret (pe_and (pe_cmpR op_eq (pe_callB (call_show gd hr.units) (by rfl) n_repr (by decide +kernel) (pa_cons (pe_cal C_compared (hr.mono (by decide)) (by rfl) pass0 (pa_cons (pv 0) (pa_cons (pv 1) pa_nil))) pa_nil)) (pe_callB (call_show gd hr.units) (by rfl) n_repr (by decide +kernel) (pa_cons (pv 8) pa_nil)) (nomark _)) (pe_and (pe_cmpR op_eq (pe_calK C_compared (hr.mono (by decide)) (by rfl) pass0 kw_compared (pk_cons (pv 0) (pk_cons (pv 1) pk_nil))) (pe_op op_sub pe_int (pv 8)) (nomark _)) (pe_one (pe_cmpR op_eq (pe_callB (call_show gd hr.units) (by rfl) n_repr (by decide +kernel) (pa_cons (pe_lst (pa_cons (pv 0) (pa_cons (pv 1) pa_nil))) pa_nil)) (pv 6) (nomark _)))))))))))))), ?_⟩
  have m9 : ∀ {i j : Int}, i.natAbs < 2 ^ 210 → j.natAbs < 2 ^ 210 → CMulW i j := fun h1 h2 => wide_mul h1 h2 (by decide) (by decide) (by decide)
  have dp : (0 : Int) < p.den := by
    have := p.den_pos
    omega
  have dq : (0 : Int) < q.den := by
    have := q.den_pos
    omega
  have d2 : (0 : Int) < (p.den : Int) * q.den := Int.mul_pos dp dq
  have up : ∀ n, n ≤ 4000 → 2 ^ n ≤ 2 ^ 4000 := fun n h => Nat.pow_le_pow_right (by decide) h
  have l1 : (p.num * (q.den : Int)).natAbs < 2 ^ 420 := lt_mulI zp.top (sz_den zq)
  have l2 : (q.num * (p.den : Int)).natAbs < 2 ^ 420 := lt_mulI zq.top (sz_den zp)
  have l3 : ((p.den : Int) * (q.den : Int)).natAbs < 2 ^ 420 := lt_mulI (sz_den zp) (sz_den zq)
  have l4 : (p.num * q.num).natAbs < 2 ^ 420 := lt_mulI zp.top zq.top
  have u1 := up 420 (by decide)
  have u2 : 2 ^ 420 + 2 ^ 420 ≤ 2 ^ 4000 := by
    have := up 421 (by decide)
    rw [Nat.pow_succ] at this
    omega
  have shown2 : ∀ {J : Hp} {l : Addr}, Fr K J a p → Fr K J b q → J l = some (.lst [.ref a, .ref b]) → Dp K J (.ref l) (.list [frD p, frD q]) := fun h1 h2 h3 => .lst (SqL.of h3) (.cons h1.dp (.cons h2.dp .nil))
  have sh2 : Shw (.list [frD p, frD q]) := (TbAll.cons (frD_tb zp (by decide)) (.cons (frD_tb zq (by decide)) .nil)).list.shw
  have sh4 : Shw (.list [frD (p + q), frD (p - q), frD (p * q), qD p q]) :=
    (TbAll.cons (frD_tb (zp.add zq) (by decide)) (.cons (frD_tb (zp.sub zq) (by decide)) (.cons (frD_tb (zp.mul zq) (by decide)) (.cons (qD_tb zp zq (by decide)) .nil)))).list.shw
  have z1 : Sz 3000 p := zp.mono (by decide)
  have z2 : Sz 3000 q := zq.mono (by decide)
  have z3 : Sz 900 p := zp.mono (by decide)
  have z4 : Sz 900 q := zq.mono (by decide)
  -- the four numbers
  refine ⟨_, rfl, _, rfl, (by show 2 ≤ sizeLine; decide), fun t ht => ?_⟩
  have S1 := new_same (o := .tup [.ref a, .ref b]) ht
  refine ⟨t, _, rfl, SqT.of upd_same, rfl, _, _, rfl, ⟨a, fr p, rfl, hp.same S1, rfl, _, _, rfl, _, _, rfl, rfl, _, _, rfl, ⟨b, fr q, rfl, hq.same S1, rfl, _, _, rfl, _, _, rfl, rfl, rfl, ?_⟩⟩⟩
  have hp := hp.same S1
  have hq := hq.same S1
  have k : Yes (upd H t (.tup [.ref a, .ref b])) Q := fun H' s => k H' (S1.trans s)
  generalize upd H t (.tup [.ref a, .ref b]) = H0 at *
  -- what is shown
  refine ⟨_, rfl, _, rfl, (by show 2 ≤ sizeLine; decide), fun l hl => ?_⟩
  have S2 := new_same (o := .lst [.ref a, .ref b]) hl
  refine ⟨_, _, rfl, shown2 (hp.same S2) (hq.same S2) upd_same, sh2.1, sh2.2.1, sh2.2.2.1, sh2.2.2.2, ?_⟩
  have hp := hp.same S2
  have hq := hq.same S2
  have k : Yes (upd H0 l (.lst [.ref a, .ref b])) Q := fun H' s => k H' (S2.trans s)
  generalize upd H0 l (.lst [.ref a, .ref b]) = H1 at *
  -- what is due
  refine ⟨_, rfl, _, rfl, _, _, rfl, rfl, m9 zp.top (sz_den zq), _, rfl, _, rfl, _, _, rfl, rfl, m9 zq.top (sz_den zp), _, _, rfl, rfl, _, rfl, _, rfl, _, _, rfl, rfl, m9 (sz_den zp) (sz_den zq), _, _, _, rfl, d2, by omega, by omega, add_val p q, fun r1 J1 T1 f1 => ?_⟩
  refine ⟨_, rfl, _, rfl, _, _, rfl, rfl, m9 zp.top (sz_den zq), _, rfl, _, rfl, _, _, rfl, rfl, m9 zq.top (sz_den zp), _, _, rfl, rfl, _, rfl, _, rfl, _, _, rfl, rfl, m9 (sz_den zp) (sz_den zq), _, _, _, rfl, d2, by omega, by omega, sub_val p q, fun r2 J2 T2 f2 => ?_⟩
  refine ⟨_, rfl, _, rfl, _, _, rfl, rfl, m9 zp.top zq.top, _, rfl, _, rfl, _, _, rfl, rfl, m9 (sz_den zp) (sz_den zq), _, _, _, rfl, d2, by omega, by omega, mul_val p q, fun r3 J3 T3 f3 => ?_⟩
  have T13 := (T1.trans T2).trans T3
  refine ⟨_, rfl, _, rfl, a, b, p, q, rfl, hp.same T13, hq.same T13, z3, z4, fun v4 J4 T4 d4 e4 => ?_⟩
  refine ⟨(by show 4 ≤ sizeLine; decide), fun du hdu => ?_⟩
  have T5 := new_same (o := .lst [.ref r1, .ref r2, .ref r3, v4]) hdu
  have f1 := f1.same (((T2.trans T3).trans T4).trans T5)
  have f2 := f2.same ((T3.trans T4).trans T5)
  have f3 := f3.same (T4.trans T5)
  have d4 := dpMono T5 _ _ d4
  have e4 : q ≠ 0 → ∃ r, v4 = .ref r ∧ Fr K (upd J4 du (.lst [.ref r1, .ref r2, .ref r3, v4])) r (p / q) := fun z => by
    obtain ⟨r, e, h⟩ := e4 z
    exact ⟨r, e, h.same T5⟩
  have atdu : SqL K (upd J4 du (.lst [.ref r1, .ref r2, .ref r3, v4])) du [.ref r1, .ref r2, .ref r3, v4] := SqL.of upd_same
  have T15 := (T13.trans T4).trans T5
  have hp := hp.same T15
  have hq := hq.same T15
  have k : Yes (upd J4 du (.lst [.ref r1, .ref r2, .ref r3, v4])) Q := fun H' s => k H' (T15.trans s)
  generalize upd J4 du (.lst [.ref r1, .ref r2, .ref r3, v4]) = G at *
  -- the program's
  refine ⟨_, rfl, _, rfl, a, b, p, q, rfl, hp, hq, z1, z2, fun s1 G1 U1 g1 => ?_⟩
  refine ⟨_, rfl, _, rfl, a, b, p, q, rfl, hp.same U1, hq.same U1, z1, z2, fun s2 G2 U2 g2 => ?_⟩
  have U12 := U1.trans U2
  refine ⟨_, rfl, _, rfl, a, b, p, q, rfl, hp.same U12, hq.same U12, z1, z2, fun s3 G3 U3 g3 => ?_⟩
  have U13 := U12.trans U3
  refine ⟨_, rfl, _, rfl, a, b, p, q, rfl, hp.same U13, hq.same U13, z3, z4, fun w4 G4 U4 c4 _ => ?_⟩
  refine ⟨(by show 4 ≤ sizeLine; decide), fun pl hpl => ?_⟩
  have U5 := new_same (o := .lst [.ref s1, .ref s2, .ref s3, w4]) hpl
  have U15 := (U13.trans U4).trans U5
  refine ⟨_, _, rfl, .lst (SqL.of upd_same) (.cons (g1.same (((U2.trans U3).trans U4).trans U5)).dp (.cons (g2.same ((U3.trans U4).trans U5)).dp (.cons (g3.same (U4.trans U5)).dp (.cons (dpMono U5 _ _ c4) .nil)))), sh4.1, sh4.2.1, sh4.2.2.1, sh4.2.2.2, ?_⟩
  have atdu := U15.seq atdu
  have f1 := f1.same U15
  have f2 := f2.same U15
  have f3 := f3.same U15
  have d4 := dpMono U15 _ _ d4
  have e4 : q ≠ 0 → ∃ r, v4 = .ref r ∧ Fr K (upd G4 pl (.lst [.ref s1, .ref s2, .ref s3, w4])) r (p / q) := fun z => by
    obtain ⟨r, e, h⟩ := e4 z
    exact ⟨r, e, h.same U15⟩
  have hp := hp.same U15
  have hq := hq.same U15
  have k : Yes (upd G4 pl (.lst [.ref s1, .ref s2, .ref s3, w4])) Q := fun H' s => k H' (U15.trans s)
  generalize upd G4 pl (.lst [.ref s1, .ref s2, .ref s3, w4]) = R at *
  refine ⟨_, rfl, _, _, rfl, .lst atdu (.cons f1.dp (.cons f2.dp (.cons f3.dp (.cons d4 .nil)))), sh4.1, sh4.2.1, sh4.2.2.1, sh4.2.2.2, rfl, _, rfl, ?_⟩
  refine ite2 (fun h => ?_) (fun h => ?_)
  · simp at h
  clear h
  -- by names
  refine ⟨_, rfl, _, rfl, rfl, a, b, p, q, rfl, hp, hq, z1, z2, fun t1 V1 X1 y1 => ?_⟩
  refine ⟨_, rfl, du, _, 0, .ref r1, rfl, rfl, X1.seq atdu, rfl, _, _, y1.dp, (f1.same X1).dp, frD_shaped _, frD_shaped _, _, rfl, ?_⟩
  rw [frD_self]
  refine iteF ?_
  refine ⟨_, rfl, _, rfl, rfl, a, b, p, q, rfl, hp.same X1, hq.same X1, z1, z2, fun t2 V2 X2 y2 => ?_⟩
  have X12 := X1.trans X2
  refine ⟨_, rfl, du, _, 1, .ref r2, rfl, rfl, X12.seq atdu, rfl, _, _, y2.dp, (f2.same X12).dp, frD_shaped _, frD_shaped _, _, rfl, ?_⟩
  rw [frD_self]
  refine iteF ?_
  refine ⟨_, rfl, _, rfl, rfl, a, b, p, q, rfl, hp.same X12, hq.same X12, z1, z2, fun t3 V3 X3 y3 => ?_⟩
  have X13 := X12.trans X3
  refine ⟨_, rfl, du, _, 2, .ref r3, rfl, rfl, X13.seq atdu, rfl, _, _, y3.dp, (f3.same X13).dp, frD_shaped _, frD_shaped _, _, rfl, ?_⟩
  rw [frD_self]
  refine iteF ?_
  dsimp only [tNext]
  refine seqI (t1 := tIfS _ _ _) (fun σ' J => σ' = [some (.ref a), some (.ref b), some (.int p.num), some (.int (p.den : Int)), some (.int q.num), some (.int (q.den : Int)), some (.str (PyData.list [frD p, frD q]).shown), some (.ref du), none] ∧ Same R J) ?_ ?_
  · rintro σ' J ⟨rfl, X⟩
    refine ⟨_, rfl, _, rfl, _, _, rfl, rfl, m9 zp.top (sz_den zq), _, rfl, _, rfl, _, _, rfl, rfl, m9 zq.top (sz_den zp), _, _, rfl, rfl, _, rfl, ?_⟩
    rw [← cmpR_sgn]
    have shi : Shw (.int (cmpR p q)) := (tb_int (cmpR_small p q)).shw
    refine ⟨_, rfl, _, rfl, a, b, p, q, rfl, hp.same X, hq.same X, z1, z2, _, _, rfl, .int _, shi.1, shi.2.1, shi.2.2.1, shi.2.2.2, _, rfl, _, _, rfl, .int _, shi.1, shi.2.1, shi.2.2.1, shi.2.2.2, rfl, _, rfl, ?_⟩
    refine ite2 (fun _ => ?_) (fun h => absurd (decide_eq_true rfl) h)
    refine ⟨_, rfl, _, rfl, rfl, b, a, q, p, rfl, hq.same X, hp.same X, z2, z1, _, rfl, _, _, rfl, rfl, rfl, _, rfl, ?_⟩
    rw [cmpR_swap]
    refine ite2 (fun _ => ?_) (fun h => absurd (decide_eq_true rfl) h)
    refine ⟨_, rfl, _, rfl, (by show 2 ≤ sizeLine; decide), fun l2 hl2 => ?_⟩
    have X2 := new_same (o := .lst [.ref a, .ref b]) hl2
    refine ⟨_, _, rfl, shown2 (hp.same (X.trans X2)) (hq.same (X.trans X2)) upd_same, sh2.1, sh2.2.1, sh2.2.2.1, sh2.2.2.2, _, rfl, rfl, ?_⟩
    simp only [decide_true]
    exact k _ (X.trans X2)
  · intro Z hZ
    refine ⟨_, rfl, rfl, _, rfl, ?_⟩
    refine ite2 (fun h => ?_) (fun h => ?_)
    · have q0 : q ≠ 0 := fun e => by
        rw [e] at h
        simp at h
      obtain ⟨r4, e, f4⟩ := e4 q0
      refine ⟨_, rfl, _, rfl, rfl, a, b, p, q, rfl, hp.same X13, hq.same X13, z1, z2, fun _ r hr => ?_, fun z => absurd z q0⟩
      have X4 := new_same (o := .tup (fr (p / q))) hr
      refine ⟨_, rfl, du, _, 3, v4, rfl, rfl, (X13.trans X4).seq atdu, rfl, ?_⟩
      rw [e]
      refine ⟨_, _, Fr.new.dp, (f4.same (X13.trans X4)).dp, frD_shaped _, frD_shaped _, _, rfl, ?_⟩
      rw [frD_self]
      refine iteF ?_
      exact hZ _ _ ⟨rfl, X13.trans X4⟩
    · exact hZ _ _ ⟨rfl, X13⟩
end
end K02

set_option Elab.async false
set_option linter.all false
set_option maxRecDepth 100000
set_option maxHeartbeats 4000000
namespace K02
open PySem PySem.Spec PyProof.Rows L2 Wb Wf
theorem Frs.dp {K : PySem.W.Frag} {H : Hp} : ∀ {xs : List V} {qs : List Rat}, Frs K H xs qs → DpAll K H xs (qs.map frD)
  | [], [], _ => .nil
  | x :: xs, q :: qs, ⟨⟨a, e, h⟩, t⟩ => by
    subst e
    exact .cons h.dp (Frs.dp t)
theorem frs_lay : ∀ qs : List Rat, PyData.canLayAll0 (qs.map frD) = true ∧ PyData.depthAll (qs.map frD) ≤ 5
  | [] => by simp [PyData.canLayAll0, PyData.depthAll]
  | q :: qs => by
    obtain ⟨a, b⟩ := frs_lay qs
    simp only [List.map_cons, PyData.canLayAll0, PyData.depthAll, a, Bool.and_true]
    refine ⟨by simp [frD, PyData.canLay0, PyData.canLayAll0], ?_⟩
    refine Nat.max_le.mpr ⟨by simp [frD, PyData.depth, PyData.depthAll], b⟩
theorem frs_shaped (qs : List Rat) : SeqAt.shaped (.list (qs.map frD)) = true := by
  obtain ⟨a, b⟩ := frs_lay qs
  show (PyData.canLay0 (.list (qs.map frD)) && decide (PyData.depth (.list (qs.map frD)) ≤ 64)) = true
  rw [Bool.and_eq_true]
  refine ⟨by simpa only [PyData.canLay0] using a, decide_eq_true ?_⟩
  simp only [PyData.depth]
  omega
theorem nil_shaped : SeqAt.shaped (.list []) = true := rfl
theorem some_shaped : SeqAt.shaped (.str "some") = true := by
  simp [SeqAt.shaped, PyData.canLay0, PyData.depth]
  decide +kernel
theorem frs_nil (qs : List Rat) : PyData.eqv (.list (qs.map frD)) (.list []) = qs.isEmpty := by
  cases qs with
  | nil => simp [PyData.eqv, PyData.eqvAll]
  | cons q qs => simp [PyData.eqv, PyData.eqvAll]
theorem frs_eqv : ∀ qs : List Rat, PyData.eqvAll (qs.map frD) (qs.map frD) = true
  | [] => by simp [PyData.eqvAll]
  | q :: qs => by
    simp only [List.map_cons, PyData.eqvAll, frD_self, frs_eqv qs, Bool.and_true]
theorem cmpR_zero (p : Rat) : cmpR p 0 = sgnI p.num := by
  rw [cmpR_sgn]
  simp
/-- what the edge of a row is, or the word -/
def EdgeV (K : PySem.W.Frag) (H : Hp) (side : Int) (xs : List V) (qs : List Rat) (v : V) : Prop := (qs = [] ∧ v = .str "some") ∨ (qs ≠ [] ∧ ∃ b q, v = .ref b ∧ Best K H side xs qs qs.length b q)
theorem EdgeV.same {K : PySem.W.Frag} {H H' : Hp} {side : Int} {xs : List V} {qs : List Rat} {v : V} (s : Same H H') (h : EdgeV K H side xs qs v) : EdgeV K H' side xs qs v := by
  rcases h with h | ⟨ne, b, q, e, h1, h2, h3⟩
  · exact .inl h
  · exact .inr ⟨ne, b, q, e, h1.same s, h2, h3⟩
def sp_edge (K : PySem.W.Frag) : Sp := fun vs H Q _ => ∃ (way side : Int) (a : Addr) (xs : List V) (qs : List Rat), vs = [.int way, .ref a] ∧ ((way < 0 ∧ side = -1) ∨ (0 ≤ way ∧ side = 1)) ∧ Some_ K H a xs qs ∧
  ∀ v H', Same H H' → EdgeV K H' side xs qs v → Q v H'
def sp_edgeR (K : PySem.W.Frag) : Sp := fun vs H Q _ => ∃ (l : Addr) (xs : List V) (qs : List Rat) (v : V) (way : Int), vs = [.ref l, v, .int way] ∧ SqL K H l xs ∧ Frs K H xs qs ∧ qs.length ≤ 13 ∧ (∀ q ∈ qs, Sz 200 q) ∧ (way = 1 ∨ way = -1) ∧ EdgeV K H way xs qs v ∧ Yes H Q
theorem cmp_way {p q : Rat} {way : Int} (hw : way = 1 ∨ way = -1) (h : cmpR p q ≠ way) : ¬ way * (p.num * q.den - q.num * p.den) > 0 := by
  rw [cmpR_sgn] at h
  unfold sgnI at h
  generalize p.num * (q.den : Int) - q.num * (p.den : Int) = x at *
  rcases hw with rfl | rfl
  · intro z
    exact h (if_pos (by omega))
  · intro z
    exact h (by rw [if_neg (by omega), if_neg (by omega)])
theorem neF {p q : Rat} (h : p = q) {A B : Prop} (b : B) : if (!PyData.eqv (frD p) (frD q)) = true then A else B := by
  subst h
  rw [frD_self]
  exact iteF b
section
variable {P : Program} {w : World} {K : PySem.W.Frag} {mg : Str → Option Value} {base : Heap} {C_InvalidSize C_InvalidFraction C_BlankError : Addr}
theorem sc_oner : FnScope ["one"] ["one"] (defScope s_oner) := ⟨rfl, rfl, rfl, by decide +kernel, rfl, by decide +kernel, by decide +kernel⟩
theorem ok_oner (D : Def K mg "_law_one_right" s_oner ["one"]) (C_signOf : Cal P w K mg base CX0 2 "sign_of" s_signOf ["one"] (spSign K)) (n_repr : mg "repr" = none) (C_sgn : Cal P w K mg base CX0 1 "_law_sign" s_sgn ["number"] (sp_sgn K)) : CalG P w K mg base CX0 3 "_law_one_right" s_oner ["one"] (sp_oner K) := by
  refine D.okG sc_oner (fun vs H Q E h => ?_) (fun cdv f A outer s H vs Q E gd hr h => ?_)
  · obtain ⟨a, p, rfl, _⟩ := h
    rfl
  obtain ⟨a, p, rfl, hp, zp, k⟩ := h
  refine ⟨_, (pss_one (ps_ret (pe_and (pe_cmpR op_eq (pe_callB (call_show gd hr.units) (by rfl) n_repr (by decide +kernel) (pa_cons (pe_cal C_signOf (hr.mono (by decide)) (by rfl) pass0 (pa_cons (pv 0) pa_nil)) pa_nil)) (pe_callB (call_show gd hr.units) (by rfl) n_repr (by decide +kernel) (pa_cons (pe_cal C_sgn (hr.mono (by decide)) (by rfl) pass0 (pa_cons (pe_ix ix_tup (pv 0) pe_int (fun _ _ => rfl)) pa_nil)) pa_nil)) (nomark _)) (pe_one (pe_cmpR op_eq (pe_calK C_signOf (hr.mono (by decide)) (by rfl) pass0 kw_signOf (pk_cons (pv 0) pk_nil)) (pe_cal C_signOf (hr.mono (by decide)) (by rfl) pass0 (pa_cons (pv 0) pa_nil)) (nomark _)))))), ?_⟩
  have z : Sz 3000 p := zp.mono (by decide)
  have shi : Shw (.int (cmpR p 0)) := (tb_int (cmpR_small p 0)).shw
  refine ⟨_, rfl, a, p, rfl, hp, z, _, _, rfl, .int _, shi.1, shi.2.1, shi.2.2.1, shi.2.2.2, ?_⟩
  rw [cmpR_zero] at *
  refine ⟨_, rfl, a, fr p, 0, _, rfl, rfl, hp, at0 p, _, rfl, _, _, rfl, .int _, shi.1, shi.2.1, shi.2.2.1, shi.2.2.2, rfl, _, rfl, ?_⟩
  refine ite2 (fun _ => ?_) (fun h => absurd (decide_eq_true rfl) h)
  refine ⟨_, rfl, rfl, a, p, rfl, hp, z, _, rfl, a, p, rfl, hp, z, rfl, ?_⟩
  simp only [decide_true]
  exact k _ (Same.refl _)
theorem sc_undone : FnScope ["one", "other", "third"] ["one", "other", "third"] (defScope s_undone) := ⟨rfl, rfl, rfl, by decide +kernel, rfl, by decide +kernel, by decide +kernel⟩
theorem ok_undone (D : Def K mg "_law_undone" s_undone ["one", "other", "third"]) (C_minus : Cal P w K mg base CX0 4 "minus" s_minus ["one", "other"] (spBinS K (· - ·))) (C_plus : Cal P w K mg base CX0 4 "plus" s_plus ["one", "other"] (spBinS K (· + ·))) (C_over : Cal P w K mg base (L2.CX P w) 4 "over" s_over ["one", "other"] (spOver K C_InvalidSize)) (C_times : Cal P w K mg base CX0 4 "times" s_times ["one", "other"] (spBinS K (· * ·))) (C_compared : Cal P w K mg base CX0 1 "compared" s_compared ["one", "other"] (spCmp K)) (C_signOf : Cal P w K mg base CX0 2 "sign_of" s_signOf ["one"] (spSign K)) : Cal P w K mg base CX0 5 "_law_undone" s_undone ["one", "other", "third"] (sp_undone K) := by
  refine D.ok sc_undone (fun vs H Q E h => ?_) (fun cdv f A outer s H vs Q E hr h => ?_)
  · obtain ⟨a, b, c, p, q, r, rfl, _⟩ := h
    rfl
  obtain ⟨a, b, c, p, q, r, rfl, hp, hq, hr', zp, zq, zr, k⟩ := h
  refine ⟨_, (pss_cons (ps_if (PW.pt (pw_or (pt_cmpR (op_neD hr.units) (pe_cal C_minus (hr.mono (by decide)) (by rfl) pass0 (pa_cons (pe_cal C_plus (hr.mono (by decide)) (by rfl) pass0 (pa_cons (pv 0) (pa_cons (pv 1) pa_nil))) (pa_cons (pv 1) pa_nil))) (pv 0) (nomark _)) (pw_or (pt_cmpR (op_neD hr.units) (pe_cal C_plus (hr.mono (by decide)) (by rfl) pass0 (pa_cons (pe_cal C_minus (hr.mono (by decide)) (by rfl) pass0 (pa_cons (pv 0) (pa_cons (pv 1) pa_nil))) (pa_cons (pv 1) pa_nil))) (pv 0) (nomark _)) (pw_or1 (pt_cmpR (op_neD hr.units) (pe_cal C_minus (hr.mono (by decide)) (by rfl) pass0 (pa_cons (pv 0) (pa_cons (pv 0) pa_nil))) (pe_tup (pa_cons pe_int (pa_cons pe_int pa_nil))) (nomark _)))))) (pss_one (ps_ret pe_bl)) pss_nil)
    (pss_cons (ps_if (PW.pt (pw_and (pt_cmpR op_ne (pe_ix ix_tup (pv 1) pe_int (fun _ _ => rfl)) pe_int (nomark _)) (pw_and1 (PW.pt (pw_or (pt_cmpR (op_neD hr.units) (pe_cal C_over.quiet (hr.mono (by decide)) (by rfl) pass0 (pa_cons (pe_cal C_times (hr.mono (by decide)) (by rfl) pass0 (pa_cons (pv 0) (pa_cons (pv 1) pa_nil))) (pa_cons (pv 1) pa_nil))) (pv 0) (nomark _)) (pw_or1 (pt_cmpR (op_neD hr.units) (pe_cal C_times (hr.mono (by decide)) (by rfl) pass0 (pa_cons (pv 1) (pa_cons (pe_cal C_over.quiet (hr.mono (by decide)) (by rfl) pass0 (pa_cons (pv 0) (pa_cons (pv 1) pa_nil))) pa_nil))) (pv 0) (nomark _)))))))) (pss_one (ps_ret pe_bl)) pss_nil)
    (pss_cons (ps_if (pt_cmpR (op_neD hr.units) (pe_cal C_times (hr.mono (by decide)) (by rfl) pass0 (pa_cons (pv 2) (pa_cons (pe_cal C_plus (hr.mono (by decide)) (by rfl) pass0 (pa_cons (pv 0) (pa_cons (pv 1) pa_nil))) pa_nil))) (pe_cal C_plus (hr.mono (by decide)) (by rfl) pass0 (pa_cons (pe_cal C_times (hr.mono (by decide)) (by rfl) pass0 (pa_cons (pv 2) (pa_cons (pv 0) pa_nil))) (pa_cons (pe_cal C_times (hr.mono (by decide)) (by rfl) pass0 (pa_cons (pv 2) (pa_cons (pv 1) pa_nil))) pa_nil))) (nomark _)) (pss_one (ps_ret pe_bl)) pss_nil)
    (pss_cons (ps_if (pt_cmpR op_ne (pe_cal C_compared (hr.mono (by decide)) (by rfl) pass0 (pa_cons (pe_cal C_plus (hr.mono (by decide)) (by rfl) pass0 (pa_cons (pv 0) (pa_cons (pv 2) pa_nil))) (pa_cons (pe_cal C_plus (hr.mono (by decide)) (by rfl) pass0 (pa_cons (pv 1) (pa_cons (pv 2) pa_nil))) pa_nil))) (pe_cal C_compared (hr.mono (by decide)) (by rfl) pass0 (pa_cons (pv 0) (pa_cons (pv 1) pa_nil))) (nomark _)) (pss_one (ps_ret pe_bl)) pss_nil)
    (pss_cons (ps_if (PW.pt (pw_or (pt_cmpR (op_neD hr.units) (pe_cal C_plus (hr.mono (by decide)) (by rfl) pass0 (pa_cons (pe_cal C_plus (hr.mono (by decide)) (by rfl) pass0 (pa_cons (pv 0) (pa_cons (pv 1) pa_nil))) (pa_cons (pv 2) pa_nil))) (pe_cal C_plus (hr.mono (by decide)) (by rfl) pass0 (pa_cons (pv 0) (pa_cons (pe_cal C_plus (hr.mono (by decide)) (by rfl) pass0 (pa_cons (pv 1) (pa_cons (pv 2) pa_nil))) pa_nil))) (nomark _)) (pw_or1 (pt_cmpR (op_neD hr.units) (pe_cal C_times (hr.mono (by decide)) (by rfl) pass0 (pa_cons (pe_cal C_times (hr.mono (by decide)) (by rfl) pass0 (pa_cons (pv 0) (pa_cons (pv 1) pa_nil))) (pa_cons (pv 2) pa_nil))) (pe_cal C_times (hr.mono (by decide)) (by rfl) pass0 (pa_cons (pv 0) (pa_cons (pe_cal C_times (hr.mono (by decide)) (by rfl) pass0 (pa_cons (pv 1) (pa_cons (pv 2) pa_nil))) pa_nil))) (nomark _))))) (pss_one (ps_ret pe_bl)) pss_nil)
    (pss_one (ps_ret (pe_cmpR op_eq (pe_cal C_compared (hr.mono (by decide)) (by rfl) pass0 (pa_cons (pe_cal C_times (hr.mono (by decide)) (by rfl) pass0 (pa_cons (pv 0) (pa_cons (pv 2) pa_nil))) (pa_cons (pe_cal C_times (hr.mono (by decide)) (by rfl) pass0 (pa_cons (pv 1) (pa_cons (pv 2) pa_nil))) pa_nil))) (pe_op op_mulW (pe_cal C_compared (hr.mono (by decide)) (by rfl) pass0 (pa_cons (pv 0) (pa_cons (pv 1) pa_nil))) (pe_cal C_signOf (hr.mono (by decide)) (by rfl) pass0 (pa_cons (pv 2) pa_nil))) (nomark _))))))))), ?_⟩
  have zz : ∀ {n : Nat} {x : Rat}, Sz n x → n ≤ 3000 → Sz 3000 x := fun z h => z.mono h
  have z1 := zz zp (by decide)
  have z2 := zz zq (by decide)
  have z3 := zz zr (by decide)
  -- sums and differences undone
  refine ⟨_, rfl, _, rfl, a, b, p, q, rfl, hp, hq, z1, z2, fun r1 H1 S1 f1 => ?_⟩
  refine ⟨_, rfl, r1, b, p + q, q, rfl, f1, hq.same S1, zz (zp.add zq) (by decide), z2, fun r2 H2 S2 f2 => ?_⟩
  have S12 := S1.trans S2
  refine ⟨_, rfl, _, _, f2.dp, (hp.same S12).dp, frD_shaped _, frD_shaped _, _, rfl, ?_⟩
  refine neF (by grind) ?_
  refine ⟨_, rfl, _, rfl, a, b, p, q, rfl, hp.same S12, hq.same S12, z1, z2, fun r3 H3 S3 f3 => ?_⟩
  have S13 := S12.trans S3
  refine ⟨_, rfl, r3, b, p - q, q, rfl, f3, hq.same S13, zz (zp.sub zq) (by decide), z2, fun r4 H4 S4 f4 => ?_⟩
  have S14 := S13.trans S4
  refine ⟨_, rfl, _, _, f4.dp, (hp.same S14).dp, frD_shaped _, frD_shaped _, _, rfl, ?_⟩
  refine neF (by grind) ?_
  refine ⟨_, rfl, _, rfl, a, a, p, p, rfl, hp.same S14, hp.same S14, z1, z1, fun r5 H5 S5 f5 => ?_⟩
  have S15 := S14.trans S5
  refine ⟨(by show 2 ≤ sizeLine; decide), fun t ht => ?_⟩
  have S6 := new_same (o := .tup [.int 0, .int 1]) ht
  refine ⟨_, frD 0, (f5.same S6).dp, (Fr.new (q := 0)).dp, frD_shaped _, frD_shaped _, _, rfl, ?_⟩
  refine neF (by grind) ?_
  have S16 := S15.trans S6
  have hp := hp.same S16
  have hq := hq.same S16
  have hr' := hr'.same S16
  have k : Yes (upd H5 t (.tup [.int 0, .int 1])) Q := fun H' s => k H' (S16.trans s)
  generalize upd H5 t (.tup [.int 0, .int 1]) = R at *
  -- quotients
  dsimp only [tNext]
  refine seqI (t1 := tIfS _ _ _) (fun σ' J => σ' = [some (.ref a), some (.ref b), some (.ref c)] ∧ Same R J) ?_ ?_
  · rintro σ' J ⟨rfl, X⟩
    have hp := hp.same X
    have hq := hq.same X
    have hr' := hr'.same X
    refine ⟨_, rfl, _, rfl, _, rfl, a, b, p, q, rfl, hp, hq, z1, z2, fun t1 J1 X1 g1 => ?_⟩
    refine ⟨c, t1, r, p + q, rfl, hr'.same X1, g1, z3, zz (zp.add zq) (by decide), fun t2 J2 X2 g2 => ?_⟩
    have X12 := X1.trans X2
    refine ⟨_, rfl, _, rfl, c, a, r, p, rfl, hr'.same X12, hp.same X12, z3, z1, fun t3 J3 X3 g3 => ?_⟩
    have X13 := X12.trans X3
    refine ⟨_, rfl, _, rfl, c, b, r, q, rfl, hr'.same X13, hq.same X13, z3, z2, fun t4 J4 X4 g4 => ?_⟩
    have X14 := X13.trans X4
    refine ⟨t3, t4, r * p, r * q, rfl, g3.same X4, g4, zz (zr.mul zp) (by decide), zz (zr.mul zq) (by decide), fun t5 J5 X5 g5 => ?_⟩
    have X15 := X14.trans X5
    refine ⟨_, _, (g2.same (((X3.trans X4).trans X5))).dp, g5.dp, frD_shaped _, frD_shaped _, _, rfl, ?_⟩
    refine neF (by grind) ?_
    -- order
    refine ⟨_, rfl, _, rfl, a, c, p, r, rfl, hp.same X15, hr'.same X15, z1, z3, fun t6 J6 X6 g6 => ?_⟩
    have X16 := X15.trans X6
    refine ⟨_, rfl, _, rfl, b, c, q, r, rfl, hq.same X16, hr'.same X16, z2, z3, fun t7 J7 X7 g7 => ?_⟩
    have X17 := X16.trans X7
    refine ⟨t6, t7, p + r, q + r, rfl, g6.same X7, g7, zz (zp.add zr) (by decide), zz (zq.add zr) (by decide), ?_⟩
    refine ⟨_, rfl, _, rfl, a, b, p, q, rfl, hp.same X17, hq.same X17, z1, z2, rfl, _, rfl, ?_⟩
    rw [cmp_add]
    refine ite2 (fun h => ?_) (fun _ => ?_)
    · simp at h
    -- brackets
    refine ⟨_, rfl, _, rfl, a, b, p, q, rfl, hp.same X17, hq.same X17, z1, z2, fun t8 J8 X8 g8 => ?_⟩
    have X18 := X17.trans X8
    refine ⟨_, rfl, t8, c, p + q, r, rfl, g8, hr'.same X18, zz (zp.add zq) (by decide), z3, fun t9 J9 X9 g9 => ?_⟩
    have X19 := X18.trans X9
    refine ⟨_, rfl, _, rfl, _, rfl, b, c, q, r, rfl, hq.same X19, hr'.same X19, z2, z3, fun u1 L1 Y1 j1 => ?_⟩
    have Z1 := X19.trans Y1
    refine ⟨a, u1, p, q + r, rfl, hp.same Z1, j1, z1, zz (zq.add zr) (by decide), fun u2 L2 Y2 j2 => ?_⟩
    have Z2 := Z1.trans Y2
    refine ⟨_, _, (g9.same (Y1.trans Y2)).dp, j2.dp, frD_shaped _, frD_shaped _, _, rfl, ?_⟩
    refine neF (by grind) ?_
    refine ⟨_, rfl, _, rfl, a, b, p, q, rfl, hp.same Z2, hq.same Z2, z1, z2, fun u3 L3 Y3 j3 => ?_⟩
    have Z3 := Z2.trans Y3
    refine ⟨_, rfl, u3, c, p * q, r, rfl, j3, hr'.same Z3, zz (zp.mul zq) (by decide), z3, fun u4 L4 Y4 j4 => ?_⟩
    have Z4 := Z3.trans Y4
    refine ⟨_, rfl, _, rfl, _, rfl, b, c, q, r, rfl, hq.same Z4, hr'.same Z4, z2, z3, fun u5 L5 Y5 j5 => ?_⟩
    have Z5 := Z4.trans Y5
    refine ⟨a, u5, p, q * r, rfl, hp.same Z5, j5, z1, zz (zq.mul zr) (by decide), fun u6 L6 Y6 j6 => ?_⟩
    have Z6 := Z5.trans Y6
    refine ⟨_, _, (j4.same (Y5.trans Y6)).dp, j6.dp, frD_shaped _, frD_shaped _, _, rfl, ?_⟩
    refine neF (by grind) ?_
    -- order of products
    refine ⟨_, rfl, _, rfl, a, c, p, r, rfl, hp.same Z6, hr'.same Z6, z1, z3, fun u7 L7 Y7 j7 => ?_⟩
    have Z7 := Z6.trans Y7
    refine ⟨_, rfl, _, rfl, b, c, q, r, rfl, hq.same Z7, hr'.same Z7, z2, z3, fun u8 L8 Y8 j8 => ?_⟩
    have Z8 := Z7.trans Y8
    refine ⟨u7, u8, p * r, q * r, rfl, j7.same Y8, j8, zz (zp.mul zr) (by decide), zz (zq.mul zr) (by decide), ?_⟩
    refine ⟨_, rfl, _, rfl, a, b, p, q, rfl, hp.same Z8, hq.same Z8, z1, z2, _, rfl, c, r, rfl, hr'.same Z8, z3, _, _, rfl, rfl, ?_, rfl, ?_⟩
    · have s1 := cmpR_small p q
      have s2 := cmpR_small r 0
      exact wide_mul s1 s2 (by decide) (by decide) (by decide)
    · rw [cmp_mul]
      simp only [decide_true]
      exact k _ (X.trans Z8)
  · intro Z hZ
    refine ⟨_, rfl, b, fr q, 0, _, rfl, rfl, hq, at0 q, rfl, _, rfl, ?_⟩
    refine ite2 (fun h => ?_) (fun h => ?_)
    · have q0 : q ≠ 0 := fun e => by
        rw [e] at h
        simp at h
      refine ⟨_, rfl, _, rfl, a, b, p, q, rfl, hp, hq, z1, z2, fun t1 J1 X1 g1 => ?_⟩
      refine ⟨_, rfl, t1, b, p * q, q, rfl, g1, hq.same X1, zz (zp.mul zq) (by decide), z2, fun _ t2 ht2 => ?_, fun z => absurd z q0⟩
      have X2 := new_same (o := .tup (fr (p * q / q))) ht2
      have X12 := X1.trans X2
      refine ⟨_, rfl, _, _, Fr.new.dp, (hp.same X12).dp, frD_shaped _, frD_shaped _, _, rfl, ?_⟩
      refine neF (by grind) ?_
      refine ⟨_, rfl, _, rfl, _, rfl, a, b, p, q, rfl, hp.same X12, hq.same X12, z1, z2, fun _ t3 ht3 => ?_, fun z => absurd z q0⟩
      have X3 := new_same (o := .tup (fr (p / q))) ht3
      have X13 := X12.trans X3
      refine ⟨b, t3, q, p / q, rfl, hq.same X13, Fr.new, z2, zz (zp.div zq q0) (by decide), fun t4 J4 X4 g4 => ?_⟩
      have X14 := X13.trans X4
      refine ⟨_, rfl, _, _, g4.dp, (hp.same X14).dp, frD_shaped _, frD_shaped _, _, rfl, ?_⟩
      refine neF (by grind) ?_
      exact hZ _ _ ⟨rfl, X14⟩
    · exact hZ _ _ ⟨rfl, Same.refl _⟩
theorem sc_edge : FnScope ["way", "some", "e"] ["way", "some"] (defScope s_edge) := ⟨rfl, rfl, rfl, by decide +kernel, rfl, by decide +kernel, by decide +kernel⟩
theorem ok_edge (D : Def K mg "_law_edge" s_edge ["way", "some"]) (C_least : Cal P w K mg base (L2.CX P w) 4 "least_of" s_least ["some"] (spEdge K C_InvalidSize (-1))) (C_greatest : Cal P w K mg base (L2.CX P w) 4 "greatest_of" s_greatest ["some"] (spEdge K C_InvalidSize 1)) (Z_BlankError : ErrB K mg "BlankError" C_BlankError topB) (n_isinstance : mg "isinstance" = none) (Z_InvalidFraction : Err P w K mg base "InvalidFraction" "at" C_InvalidFraction (topE C_BlankError)) (Z_InvalidSize : Err P w K mg base "InvalidSize" "word" C_InvalidSize (topE C_BlankError)) (ne_SF : C_InvalidSize ≠ C_InvalidFraction) (ne_FB : C_InvalidFraction ≠ C_BlankError) : Cal P w K mg base CX0 5 "_law_edge" s_edge ["way", "some"] (sp_edge K) := by
  refine D.ok sc_edge (fun vs H Q E h => ?_) (fun cdv f A outer s H vs Q E hr h => ?_)
  · obtain ⟨way, side, a, xs, qs, rfl, _⟩ := h
    rfl
  obtain ⟨way, side, a, xs, qs, rfl, hw, hs, k⟩ := h
  refine ⟨_, (pss_one (ps_try_as (i := 2) rfl rfl sc_edge.nd rfl rfl ⟨rfl, by decide, .inl Z_InvalidSize.g⟩ takes0 (fun W pn xe tk _ => (pss_one (ps_ret (pe_ifExp (pt_cmpR op_lt (pv 0) pe_int (nomark _)) (pe_calS C_least (hr.mono (by decide)) (by rfl) (fun σ => passAt tk σ) (pa_cons (pv 1) pa_nil)) (pe_calS C_greatest (hr.mono (by decide)) (by rfl) (fun σ => passAt tk σ) (pa_cons (pv 1) pa_nil)))))) (fun a oe cls d pn hz hf => (pss_one (ps_ret (pe_ifExp (PW.pt (pw_and (pt_val (pe_callB (call_isX hz hf) (by rfl) n_isinstance (by decide +kernel) (pa_cons (pv 2) (pa_cons (pe_glob (by rfl) Z_BlankError.g (show RelV (.ref C_BlankError) (.ref C_BlankError) from rfl)) pa_nil)))) (pw_and1 (pt_not (pt_val (pe_callB (call_isX hz hf) (by rfl) n_isinstance (by decide +kernel) (pa_cons (pv 2) (pa_cons (pe_glob (by rfl) Z_InvalidFraction.g (show RelV (.ref C_InvalidFraction) (.ref C_InvalidFraction) from rfl)) pa_nil)))))))) (pe_errF hz hf (pv 2)) pe_str)))))), ?_⟩
  refine ⟨_, rfl, _, _, rfl, rfl, _, rfl, ?_⟩
  refine ite2 (fun h => ?_) (fun h => ?_)
  · have neg : way < 0 := of_decide_eq_true h
    have e : side = -1 := by omega
    subst e
    refine ⟨_, rfl, a, xs, qs, rfl, hs, fun ne b q best => k _ _ (Same.refl _) (.inr ⟨ne, b, q, rfl, best⟩), fun e dx hdx => ?_⟩
    refine ⟨true, Z_InvalidSize.exm_self rfl, fun _ ae hae => ?_, fun q => nomatch q⟩
    have atd : upd H dx (.xd [("word", .str "some")]) dx = some (.xd [("word", .str "some")]) := upd_same
    refine ⟨_, rfl, C_InvalidSize, _, _, true, rfl, rfl, (fun dd e => by cases e; exact ⟨_, atd⟩), Z_InvalidSize.T, .own _, Z_InvalidSize.is_base Z_BlankError, _, rfl, ?_⟩
    refine iteT ?_
    refine ⟨_, rfl, C_InvalidSize, _, _, false, rfl, rfl, (fun dd e => by cases e; exact ⟨_, atd⟩), Z_InvalidSize.T, .own _, Z_InvalidSize.isnt Z_InvalidFraction ne_SF ne_FB, _, rfl, ?_⟩
    refine iteT ?_
    exact ⟨_, rfl, rfl, C_InvalidSize, dx, _, rfl, rfl, Z_InvalidSize.T, Z_InvalidSize.no, atd, k _ _ (new_same hdx) (.inl ⟨e, rfl⟩)⟩
  · have neg : ¬ way < 0 := fun z => h (decide_eq_true z)
    have e : side = 1 := by omega
    subst e
    refine ⟨_, rfl, a, xs, qs, rfl, hs, fun ne b q best => k _ _ (Same.refl _) (.inr ⟨ne, b, q, rfl, best⟩), fun e dx hdx => ?_⟩
    refine ⟨true, Z_InvalidSize.exm_self rfl, fun _ ae hae => ?_, fun q => nomatch q⟩
    have atd : upd H dx (.xd [("word", .str "some")]) dx = some (.xd [("word", .str "some")]) := upd_same
    refine ⟨_, rfl, C_InvalidSize, _, _, true, rfl, rfl, (fun dd e => by cases e; exact ⟨_, atd⟩), Z_InvalidSize.T, .own _, Z_InvalidSize.is_base Z_BlankError, _, rfl, ?_⟩
    refine iteT ?_
    refine ⟨_, rfl, C_InvalidSize, _, _, false, rfl, rfl, (fun dd e => by cases e; exact ⟨_, atd⟩), Z_InvalidSize.T, .own _, Z_InvalidSize.isnt Z_InvalidFraction ne_SF ne_FB, _, rfl, ?_⟩
    refine iteT ?_
    exact ⟨_, rfl, rfl, C_InvalidSize, dx, _, rfl, rfl, Z_InvalidSize.T, Z_InvalidSize.no, atd, k _ _ (new_same hdx) (.inl ⟨e, rfl⟩)⟩
theorem inV_mem {s : Str} {xs : List V} (h : V.str s ∈ xs) : inV (.str s) xs = true := by
  unfold inV
  exact List.any_eq_true.mpr ⟨_, h, by simp [eqV]⟩
theorem sc_edgeR : FnScope ["some", "told", "way", "one"] ["some", "told", "way"] (defScope s_edgeR) := ⟨rfl, rfl, rfl, by decide +kernel, rfl, by decide +kernel, by decide +kernel⟩
theorem ok_edgeR (D : Def K mg "_law_edge_right" s_edgeR ["some", "told", "way"]) (n_repr : mg "repr" = none) : CalG P w K mg base CX0 1 "_law_edge_right" s_edgeR ["some", "told", "way"] (sp_edgeR K) := by
  refine D.okG sc_edgeR (fun vs H Q E h => ?_) (fun cdv f A outer s H vs Q E gd hr h => ?_)
  · obtain ⟨l, xs, qs, v, way, rfl, _⟩ := h
    rfl
  obtain ⟨l, xs, qs, v, way, rfl, hs, hf, few, sz, hw, hv, k⟩ := h
  refine ⟨_, (pss_cons (ps_if (pt_cmpR (op_eqD hr.units) (pv 0) (pe_lst pa_nil) (nomark _)) (pss_one (ps_ret (pe_cmpR (op_eqD hr.units) (pv 1) pe_str (nomark _)))) pss_nil)
    (pss_cons (ps_if (pt_cmpR op_notIn_seq (pe_callB (call_show gd hr.units) (by rfl) n_repr (by decide +kernel) (pa_cons (pv 1) pa_nil)) (pe_lc (own := [("one", 3)]) (g := gName 3) (tt := tYes) rfl sc_edgeR.nd (pi_list (pv 0)) (blkOk_by (own := [("one", 3)]) (N := ["some", "told", "way", "one"]) (sc := defScope s_edgeR) (by decide +kernel)) (fun _ _ _ _ _ => (pg_name (i := 3) sc_edgeR.nd rfl (Or.inl rfl))) (fun _ _ _ _ _ => pts_nil) (fun _ _ _ _ _ => (pe_callB (r := rShow K) (call_show gd hr.units) (by rfl) n_repr (by decide +kernel) (pa_cons (pv 3) pa_nil)))) rfl) (pss_one (ps_ret pe_bl)) pss_nil)
    (pss_cons (ps_for PassesOwn.leaving rfl (pi_list (pv 0)) (pg_name (i := 3) sc_edgeR.nd rfl (Or.inl rfl)) (pss_one (ps_if (pt_cmpR op_gt (pe_op op_mulW (pv 2) (pe_op op_sub (pe_op op_mulW (pe_ix ix_tup (pv 3) pe_int (fun _ _ => rfl)) (pe_ix ix_tup (pv 1) pe_int (fun _ _ => rfl))) (pe_op op_mulW (pe_ix ix_tup (pv 1) pe_int (fun _ _ => rfl)) (pe_ix ix_tup (pv 3) pe_int (fun _ _ => rfl))))) pe_int (nomark _)) (pss_one (ps_ret pe_bl)) pss_nil)))
    (pss_one (ps_ret pe_bl))))), ?_⟩
  have m9 : ∀ {i j : Int}, i.natAbs < 2 ^ 900 → j.natAbs < 2 ^ 900 → CMulW i j := fun h1 h2 => wide_mul h1 h2 (by decide) (by decide) (by decide)
  have ln := hf.len
  refine ⟨_, rfl, Nat.zero_le _, fun e he => ?_⟩
  have S1 := new_same (o := .lst []) he
  refine ⟨_, _, .lst (S1.seq hs) (hf.same S1).dp, .lst (SqL.of upd_same) .nil, frs_shaped qs, nil_shaped, _, rfl, ?_⟩
  rw [frs_nil]
  rcases hv with ⟨rfl, rfl⟩ | ⟨ne, b, q, rfl, hb, ⟨m, hm, hmq⟩, far⟩
  · refine iteT ?_
    refine ⟨_, rfl, _, _, .str _, .str _, some_shaped, some_shaped, ?_⟩
    have e : PyData.eqv (.str "some") (.str "some") = true := by simp [PyData.eqv]
    rw [e]
    exact k _ S1
  have e0 : qs.isEmpty = false := by
    cases qs with
    | nil => exact absurd rfl ne
    | cons _ _ => rfl
  rw [e0]
  refine iteF ?_
  have zq : Sz 200 q := sz q (List.mem_of_getElem? hmq)
  have shF : ∀ {x : Rat}, Sz 200 x → Shw (frD x) := fun z => (frD_tb z (by decide)).shw
  have hb := hb.same S1
  have hs := S1.seq hs
  have hf := hf.same S1
  have k : Yes (upd H e (.lst [])) Q := fun H' s => k H' (S1.trans s)
  generalize upd H e (.lst []) = G at *
  refine ⟨_, rfl, _, _, rfl, hb.dp, (shF zq).1, (shF zq).2.1, (shF zq).2.2.1, (shF zq).2.2.2, ?_⟩
  refine ⟨_, rfl, l, rfl, ⟨_, hs⟩, fun D hD => ?_⟩
  refine lc_list (K := K) (a := l) (xs := xs) (fun i J => J D = some (.lst ((qs.take i).map fun x => V.str (frD x).shown)) ∧ Same G J) ⟨by rw [List.take_zero]; exact upd_same, new_same hD⟩ (fun i J _ q => q.2.seq hs) ?_ ?_
  · rintro i x J hx ⟨hJ, sJ⟩
    obtain ⟨y, c, hy, rfl, hc⟩ := hf.at_ hx
    have hi : i < qs.length := (List.getElem?_eq_some_iff.mp hy).1
    have zy := shF (sz y (List.mem_of_getElem? hy))
    refine ⟨rfl, ?_⟩
    refine ⟨_, rfl, _, _, rfl, (hc.same sJ).dp, zy.1, zy.2.1, zy.2.2.1, zy.2.2.2, _, hJ, ?_, ?_, ?_⟩
    · rw [List.length_map, List.length_take, sizeLine_eq]
      omega
    · rw [upd_same, List.take_succ, hy]
      simp
    · intro c o e
      rw [upd_ne (ne_of_none e hD)]
      exact sJ c o e
  rintro J ⟨hJ, sJ⟩
  rw [ln, List.take_length] at hJ
  refine ⟨D, _, rfl, .inl (SqL.of hJ), rfl, ?_, _, rfl, ?_⟩
  · rw [List.all_eq_true]
    intro x hx
    obtain ⟨y, _, rfl⟩ := List.mem_map.mp hx
    rfl
  rw [inV_mem (List.mem_map.mpr ⟨q, List.mem_of_getElem? hmq, rfl⟩)]
  refine iteF ?_
  have hb := hb.same sJ
  have hs := sJ.seq hs
  have hf := hf.same sJ
  refine ⟨_, rfl, l, rfl, ⟨_, hs⟩, for_list (K := K) (a := l) (xs := xs) (fun i σ G' => ∃ v : Option V, σ = [some (.ref l), some (.ref b), some (.int way), v] ∧ G' = J) ⟨none, rfl, rfl⟩ (fun i σ G' _ ⟨_, _, e⟩ => by rw [e]; exact hs) ?_ ?_⟩
  · rintro i x σ G' hx ⟨v, rfl, rfl⟩
    obtain ⟨y, c, hy, rfl, hc⟩ := hf.at_ hx
    have hi : i < qs.length := (List.getElem?_eq_some_iff.mp hy).1
    have zy := sz y (List.mem_of_getElem? hy)
    have z9 : ∀ {x : Rat}, Sz 200 x → Sz 900 x := fun z => z.mono (by decide)
    refine ⟨_, rfl, _, rfl, c, fr y, 0, _, rfl, rfl, hc, at0 y, _, rfl, b, fr q, 1, _, rfl, rfl, hb, at1 q, _, _, rfl, rfl, m9 (z9 zy).top (sz_den (z9 zq)), ?_⟩
    refine ⟨_, rfl, b, fr q, 0, _, rfl, rfl, hb, at0 q, _, rfl, c, fr y, 1, _, rfl, rfl, hc, at1 y, _, _, rfl, rfl, m9 (z9 zq).top (sz_den (z9 zy)), _, _, rfl, rfl, _, _, rfl, rfl, ?_, ?_⟩
    · have h1 : (y.num * (q.den : Int)).natAbs < 2 ^ 400 := lt_mulI zy.top (sz_den zq)
      have h2 : (q.num * (y.den : Int)).natAbs < 2 ^ 400 := lt_mulI zq.top (sz_den zy)
      have h3 : (y.num * (q.den : Int) - q.num * (y.den : Int)).natAbs < 2 ^ 401 := by
        rw [Nat.pow_succ]
        omega
      have h4 : way.natAbs < 2 ^ 1 := by
        rcases hw with rfl | rfl <;> decide
      exact wide_mul h4 h3 (by decide) (by decide) (by decide)
    · refine ⟨_, _, rfl, rfl, _, rfl, ?_⟩
      refine ite2 (fun h => ?_) (fun h => ?_)
      · exact absurd (of_decide_eq_true h) (cmp_way hw (far i y hi hy))
      · exact ⟨_, rfl, rfl⟩
  · rintro σ G' ⟨v, rfl, rfl⟩
    exact k _ sJ
end
end K02

set_option Elab.async false
set_option linter.all false
set_option maxRecDepth 100000
set_option maxHeartbeats 4000000
namespace K02
open PySem PySem.Spec PyProof.Rows L2 Wb Wf
theorem cutV_1 (xs : List V) : cutV xs none (some 1) = xs.take 1 := by
  unfold cutV
  have e0 : HT.sIx xs.length 0 none = 0 := rfl
  rw [e0, List.drop_zero, Nat.sub_zero]
  cases xs with
  | nil => simp
  | cons x r =>
    have e1 : HT.sIx (x :: r).length (x :: r).length (some 1) = 1 := by
      simp [HT.sIx]
      try omega
    rw [e1]
theorem slice1 {K : PySem.W.Frag} {H : Hp} {a : Addr} {xs : List V} {Q : VK} (h : SqE K H a xs) (q : ∀ p H', Same H H' → SqE K H' p (xs.take 1) → Q (.ref p) H') : rSlL K (.ref a) none (some 1) H Q ∨ rSlA K (.ref a) none (some 1) H Q := by
  rcases h with h | h
  · refine .inl ⟨a, xs, rfl, h, fun p hp => ?_⟩
    rw [cutV_1]
    exact q p _ (new_same hp) (.inl (SqL.of upd_same))
  · refine .inr ⟨a, xs, rfl, h, fun w => ?_, fun _ p hp => ?_⟩
    · have e : xs.take 1 = xs := by
        have c := cutV_1 xs
        unfold cutV at c
        rw [w.1, w.2, List.drop_zero, Nat.sub_zero, List.take_length] at c
        exact c.symm
      refine q a H (Same.refl _) (.inr ?_)
      rw [e]
      exact h
    · rw [cutV_1]
      exact q p _ (new_same hp) (.inr (SqT.of upd_same))
theorem SqE.same {K : PySem.W.Frag} {H H' : Hp} {a : Addr} {xs : List V} (s : Same H H') (h : SqE K H a xs) : SqE K H' a xs := by
  rcases h with h | h
  · exact .inl (s.seq h)
  · exact .inr (seqT s h)
theorem Some_.same {K : PySem.W.Frag} {H H' : Hp} {a : Addr} {xs : List V} {qs : List Rat} (s : Same H H') (h : Some_ K H a xs qs) : Some_ K H' a xs qs := ⟨h.1.same s, h.2.1.same s, h.2.2⟩
theorem Some_.take {K : PySem.W.Frag} {H H' : Hp} {a b : Addr} {xs : List V} {qs : List Rat} (s : Same H H') (h : Some_ K H a xs qs) (hb : SqE K H' b (xs.take 1)) : Some_ K H' b (xs.take 1) (qs.take 1) :=
  ⟨hb, (h.2.1.same s).take 1, by have := h.2.2.1; rw [List.length_take]; omega, fun q hq => h.2.2.2 q (List.mem_of_mem_take hq)⟩
theorem best_one {K : PySem.W.Frag} {H J : Hp} {side : Int} (hs : side = 1 ∨ side = -1) {xs : List V} {qs : List Rat} {a b : Addr} {p q : Rat} (h1 : Best K H side xs qs qs.length a p) (h2 : Best K J side xs qs qs.length b q) : p = q := by
  obtain ⟨_, ⟨i, _, hp⟩, f1⟩ := h1
  obtain ⟨_, ⟨j, _, hq⟩, f2⟩ := h2
  have a := f1 j q (List.getElem?_eq_some_iff.mp hq).1 hq
  have b := f2 i p (List.getElem?_eq_some_iff.mp hp).1 hp
  rw [cmpR_eq] at a b
  rcases hs with rfl | rfl
  · have c : ¬ p < q := fun z => a (if_pos z)
    have d : ¬ q < p := fun z => b (if_pos z)
    grind
  · have c : ¬ q < p := fun z => a (by rw [if_neg (by grind), if_pos z])
    have d : ¬ p < q := fun z => b (by rw [if_neg (by grind), if_pos z])
    grind
def sp_rowR (K : PySem.W.Frag) : Sp := fun vs H Q _ => ∃ (l r : Addr) (xs : List V) (qs : List Rat), vs = [.ref l, .ref r] ∧ SqL K H l xs ∧ SqE K H r xs ∧ Frs K H xs qs ∧ qs.length ≤ 13 ∧ (∀ q ∈ qs, Sz 70 q) ∧ Yes H Q
theorem sum_take1 (qs : List Rat) : (qs = [] ∧ sumR (qs.take 1) = 0 ∧ prodR (qs.take 1) = 1) ∨ ∃ q r, qs = q :: r ∧ sumR (qs.take 1) = q ∧ prodR (qs.take 1) = q := by
  cases qs with
  | nil => exact .inl ⟨rfl, rfl, rfl⟩
  | cons q r =>
    refine .inr ⟨q, r, rfl, ?_, ?_⟩
    · show q + 0 = q
      grind
    · show q * 1 = q
      grind
theorem kw_total : Kw "total_of" s_total ["some"] ["some"] [0] := ⟨rfl, fun _ _ _ _ _ _ _ ws hl => match ws, hl with | [_], _ => .of_eq rfl⟩
theorem kw_product : Kw "product_all" s_product ["some"] ["some"] [0] := ⟨rfl, fun _ _ _ _ _ _ _ ws hl => match ws, hl with | [_], _ => .of_eq rfl⟩
theorem kw_least : Kw "least_of" s_least ["some"] ["some"] [0] := ⟨rfl, fun _ _ _ _ _ _ _ ws hl => match ws, hl with | [_], _ => .of_eq rfl⟩
theorem kw_greatest : Kw "greatest_of" s_greatest ["some"] ["some"] [0] := ⟨rfl, fun _ _ _ _ _ _ _ ws hl => match ws, hl with | [_], _ => .of_eq rfl⟩
section
variable {P : Program} {w : World} {K : PySem.W.Frag} {mg : Str → Option Value} {base : Heap} {C_InvalidSize C_InvalidFraction C_BlankError : Addr}
/-- the head of a row, or another fraction: as data -/
theorem head_or {K : PySem.W.Frag} {H : Hp} {l : Addr} {xs : List V} {qs : List Rat} (hs : SqL K H l xs) (hf : Frs K H xs qs) : qs = [] ∨ ∃ q r a, qs = q :: r ∧ atI xs 0 = some (.ref a) ∧ Fr K H a q := by
  cases qs with
  | nil => exact .inl rfl
  | cons q r =>
    cases xs with
    | nil => exact hf.elim
    | cons x xs =>
      obtain ⟨⟨a, e, h⟩, _⟩ := hf
      refine .inr ⟨q, r, a, rfl, ?_, h⟩
      rw [e]
      exact atI_nat (j := 0) rfl
theorem sc_rowR : FnScope ["some", "row", "top", "bottom", "one", "least", "greatest"] ["some", "row"] (defScope s_rowR) := ⟨rfl, rfl, rfl, by decide +kernel, rfl, by decide +kernel, by decide +kernel⟩
theorem ok_rowR (D : Def K mg "_law_row_right" s_rowR ["some", "row"]) (C_total : Cal P w K mg base CX0 4 "total_of" s_total ["some"] (spTotal K)) (n_repr : mg "repr" = none) (C_low : Cal P w K mg base CX0 2 "_law_low" s_low ["top", "bottom"] (sp_low K)) (C_product : Cal P w K mg base CX0 4 "product_all" s_product ["some"] (spProduct K)) (C_edge : Cal P w K mg base CX0 5 "_law_edge" s_edge ["way", "some"] (sp_edge K)) (C_edgeR : CalG P w K mg base CX0 1 "_law_edge_right" s_edgeR ["some", "told", "way"] (sp_edgeR K)) (C_least : Cal P w K mg base (L2.CX P w) 4 "least_of" s_least ["some"] (spEdge K C_InvalidSize (-1))) (C_greatest : Cal P w K mg base (L2.CX P w) 4 "greatest_of" s_greatest ["some"] (spEdge K C_InvalidSize 1)) : CalG P w K mg base CX0 6 "_law_row_right" s_rowR ["some", "row"] (sp_rowR K) := by
  refine D.okG sc_rowR (fun vs H Q E h => ?_) (fun cdv f A outer s H vs Q E gd hr h => ?_)
  · obtain ⟨l, r, xs, qs, rfl, _⟩ := h
    rfl
  obtain ⟨l, r, xs, qs, rfl, hs, he, hf, few, sz, k⟩ := h
  refine ⟨_, (pss_cons (ps_asg (pe_tup (pa_cons pe_int (pa_cons pe_int pa_nil))) (pg_tup rfl (pgs_cons (pg_name (i := 2) sc_rowR.nd rfl (Or.inl rfl)) (pgs_cons (pg_name (i := 3) sc_rowR.nd rfl (Or.inl rfl)) pgs_nil))))
    (pss_cons (ps_for PassesOwn.leaving rfl (pi_list (pv 0)) (pg_name (i := 4) sc_rowR.nd rfl (Or.inl rfl)) (pss_one (ps_par (i := 2) (j := 3) rfl sc_rowR.nd rfl rfl (by decide) rfl rfl (pa_cons (pe_op op_add (pe_op op_mulW (pv 2) (pe_ix ix_tup (pv 4) pe_int (fun _ _ => rfl))) (pe_op op_mulW (pe_ix ix_tup (pv 4) pe_int (fun _ _ => rfl)) (pv 3))) (pa_cons (pe_op op_mulW (pv 3) (pe_ix ix_tup (pv 4) pe_int (fun _ _ => rfl))) pa_nil)) (by rfl))))
    (pss_cons (ps_if (PW.pt (pw_or (pt_cmpR op_ne (pe_callB (call_show gd hr.units) (by rfl) n_repr (by decide +kernel) (pa_cons (pe_cal C_total (hr.mono (by decide)) (by rfl) pass0 (pa_cons (pv 1) pa_nil)) pa_nil)) (pe_callB (call_show gd hr.units) (by rfl) n_repr (by decide +kernel) (pa_cons (pe_cal C_low (hr.mono (by decide)) (by rfl) pass0 (pa_cons (pv 2) (pa_cons (pv 3) pa_nil))) pa_nil)) (nomark _)) (pw_or1 (pt_cmpR (op_neD hr.units) (pe_calK C_total (hr.mono (by decide)) (by rfl) pass0 kw_total (pk_cons (pe_slice (SlR.or sl_list sl_tupA) (pv 1) po_none (po_some pe_int)) pk_nil)) (pe_ifExp (pt_cmpR (op_neD hr.units) (pv 0) (pe_lst pa_nil) (nomark _)) (pe_ix ix_list (pv 0) pe_int (fun _ _ => rfl)) (pe_tup (pa_cons pe_int (pa_cons pe_int pa_nil)))) (nomark _))))) (pss_one (ps_ret pe_bl)) pss_nil)
    (pss_cons (ps_asg (pe_tup (pa_cons pe_int (pa_cons pe_int pa_nil))) (pg_tup rfl (pgs_cons (pg_name (i := 2) sc_rowR.nd rfl (Or.inl rfl)) (pgs_cons (pg_name (i := 3) sc_rowR.nd rfl (Or.inl rfl)) pgs_nil))))
    (pss_cons (ps_for PassesOwn.leaving rfl (pi_list (pv 0)) (pg_name (i := 4) sc_rowR.nd rfl (Or.inl rfl)) (pss_one (ps_par (i := 2) (j := 3) rfl sc_rowR.nd rfl rfl (by decide) rfl rfl (pa_cons (pe_op op_mulW (pv 2) (pe_ix ix_tup (pv 4) pe_int (fun _ _ => rfl))) (pa_cons (pe_op op_mulW (pv 3) (pe_ix ix_tup (pv 4) pe_int (fun _ _ => rfl))) pa_nil)) (by rfl))))
    (pss_cons (ps_if (PW.pt (pw_or (pt_cmpR op_ne (pe_callB (call_show gd hr.units) (by rfl) n_repr (by decide +kernel) (pa_cons (pe_cal C_product (hr.mono (by decide)) (by rfl) pass0 (pa_cons (pv 1) pa_nil)) pa_nil)) (pe_callB (call_show gd hr.units) (by rfl) n_repr (by decide +kernel) (pa_cons (pe_cal C_low (hr.mono (by decide)) (by rfl) pass0 (pa_cons (pv 2) (pa_cons (pv 3) pa_nil))) pa_nil)) (nomark _)) (pw_or1 (pt_cmpR (op_neD hr.units) (pe_calK C_product (hr.mono (by decide)) (by rfl) pass0 kw_product (pk_cons (pe_slice (SlR.or sl_list sl_tupA) (pv 1) po_none (po_some pe_int)) pk_nil)) (pe_ifExp (pt_cmpR (op_neD hr.units) (pv 0) (pe_lst pa_nil) (nomark _)) (pe_ix ix_list (pv 0) pe_int (fun _ _ => rfl)) (pe_tup (pa_cons pe_int (pa_cons pe_int pa_nil)))) (nomark _))))) (pss_one (ps_ret pe_bl)) pss_nil)
    (pss_cons (ps_par (i := 5) (j := 6) rfl sc_rowR.nd rfl rfl (by decide) rfl rfl (pa_cons (pe_cal C_edge (hr.mono (by decide)) (by rfl) pass0 (pa_cons (pe_un un_neg pe_int) (pa_cons (pv 1) pa_nil))) (pa_cons (pe_cal C_edge (hr.mono (by decide)) (by rfl) pass0 (pa_cons pe_int (pa_cons (pv 1) pa_nil))) pa_nil)) (by rfl))
    (pss_cons (ps_if (PW.pt (pw_or (pt_not (pt_val (pe_calG C_edgeR gd (hr.mono (by decide)) (by rfl) pass0 (pa_cons (pv 0) (pa_cons (pv 5) (pa_cons (pe_un un_neg pe_int) pa_nil)))))) (pw_or1 (pt_not (pt_val (pe_calG C_edgeR gd (hr.mono (by decide)) (by rfl) pass0 (pa_cons (pv 0) (pa_cons (pv 6) (pa_cons pe_int pa_nil))))))))) (pss_one (ps_ret pe_bl)) pss_nil)
    (pss_one (ps_ret (pe_or (pe_cmpR (op_eqD hr.units) (pv 0) (pe_lst pa_nil) (nomark _)) (pe_one (pe_and (pe_cmpR (op_eqD hr.units) (pe_calK C_least.quiet (hr.mono (by decide)) (by rfl) pass0 kw_least (pk_cons (pv 1) pk_nil)) (pv 5) (nomark _)) (pe_one (pe_cmpR (op_eqD hr.units) (pe_calK C_greatest.quiet (hr.mono (by decide)) (by rfl) pass0 kw_greatest (pk_cons (pv 1) pk_nil)) (pv 6) (nomark _)))))))))))))))), ?_⟩
  have ln := hf.len
  have some_ : Some_ K H r xs qs := ⟨he, hf, few, fun q hq => (sz q hq).mono (by decide)⟩
  have m9 : ∀ {i j : Int}, i.natAbs < 2 ^ 2000 → j.natAbs < 2 ^ 70 → CMulW i j := fun h1 h2 => wide_mul h1 h2 (by decide) (by decide) (by decide)
  have m9' : ∀ {i j : Int}, i.natAbs < 2 ^ 70 → j.natAbs < 2 ^ 2000 → CMulW i j := fun h1 h2 => wide_mul h1 h2 (by decide) (by decide) (by decide)
  have up : ∀ {n x : Nat}, n ≤ 2000 → x < 2 ^ n → x < 2 ^ 2000 := fun h g => Nat.lt_of_lt_of_le g (Nat.pow_le_pow_right (by decide) h)
  have up4 : ∀ {n x : Nat}, n ≤ 4000 → x < 2 ^ n → x < 2 ^ 4000 := fun h g => Nat.lt_of_lt_of_le g (Nat.pow_le_pow_right (by decide) h)
  -- the sum
  refine ⟨(by show 2 ≤ sizeLine; decide), fun p1 hp1 => ⟨p1, _, rfl, SqT.of upd_same, rfl, _, _, rfl, _, _, rfl, rfl, ?_⟩⟩
  have S1 := new_same (o := .tup [.int 0, .int 1]) hp1
  have hs := S1.seq hs
  have hf := hf.same S1
  have some_ := some_.same S1
  have k : Yes (upd H p1 (.tup [.int 0, .int 1])) Q := fun H' s => k H' (S1.trans s)
  generalize upd H p1 (.tup [.int 0, .int 1]) = H0 at *
  refine ⟨_, rfl, l, rfl, ⟨_, hs⟩, for_list (K := K) (a := l) (xs := xs) (fun i σ G => ∃ (t b : Int) (v : Option V), σ = [some (.ref l), some (.ref r), some (.int t), some (.int b), v, none, none] ∧ G = H0 ∧ 0 < b ∧ t.natAbs < 2 ^ (72 * i + 1) ∧ b.natAbs < 2 ^ (70 * i + 1) ∧ Rat.divInt t b = sumR (qs.take i))
    ⟨0, 1, none, rfl, rfl, by decide, by decide, by decide, by rw [List.take_zero]; rfl⟩ (fun i σ G _ ⟨_, _, _, _, e, _⟩ => by rw [e]; exact hs) ?_ ?_⟩
  · rintro i x σ G hx ⟨t, b, v, rfl, rfl, b0, t1, b1, e⟩
    obtain ⟨q, c, hq, rfl, hb⟩ := hf.at_ hx
    have hi : i < qs.length := (List.getElem?_eq_some_iff.mp hq).1
    have zq := sz q (List.mem_of_getElem? hq)
    have dq : (0 : Int) < q.den := by
      have := q.den_pos
      omega
    have t2 := up (n := 72 * i + 1) (by omega) t1
    have b2 := up (n := 70 * i + 1) (by omega) b1
    refine ⟨_, rfl, _, rfl, c, fr q, 1, _, rfl, rfl, hb, at1 q, _, _, rfl, rfl, m9 t2 (sz_den zq), _, rfl, c, fr q, 0, _, rfl, rfl, hb, at0 q, _, rfl, _, _, rfl, rfl, m9' zq.top b2, _, _, rfl, rfl, ?_⟩
    refine ⟨_, rfl, _, rfl, c, fr q, 1, _, rfl, rfl, hb, at1 q, _, _, rfl, rfl, m9 b2 (sz_den zq), _, _, rfl, ?_⟩
    refine ⟨_, _, _, rfl, rfl, Int.mul_pos b0 dq, ?_, ?_, ?_⟩
    · have a1 : (t * (q.den : Int)).natAbs < 2 ^ (72 * i + 1 + 70) := wide_lt t1 (sz_den zq)
      have a2 : (q.num * b).natAbs < 2 ^ (70 + (70 * i + 1)) := wide_lt zq.top b1
      have a3 : 2 ^ (70 + (70 * i + 1)) ≤ 2 ^ (72 * i + 1 + 70) := Nat.pow_le_pow_right (by decide) (by omega)
      have a4 : 2 ^ (72 * i + 1 + 70 + 1) ≤ 2 ^ (72 * (i + 1) + 1) := Nat.pow_le_pow_right (by decide) (by omega)
      rw [Nat.pow_succ] at a4
      refine Nat.lt_of_lt_of_le ?_ a4
      clear a4 t2 b2 t1 b1
      generalize 2 ^ (72 * i + 1 + 70) = A at *
      generalize 2 ^ (70 + (70 * i + 1)) = B at *
      omega
    · have e2 : 70 * (i + 1) + 1 = 70 * i + 1 + 70 := by omega
      rw [e2]
      exact wide_lt b1 (sz_den zq)
    · rw [List.take_succ, hq, step_sum (by omega), e]
      exact (sumR_snoc q _).symm
  rintro σ G ⟨t, b, v, rfl, rfl, b0, t1, b1, e⟩
  rw [ln, List.take_length] at e
  rw [ln] at t1 b1
  have zs : Sz 1000 (sumR qs) := by
    rw [← e]
    exact sz_divInt (by omega) (Nat.lt_of_lt_of_le t1 (Nat.pow_le_pow_right (by decide) (by omega))) (Nat.lt_of_lt_of_le b1 (Nat.pow_le_pow_right (by decide) (by omega)))
  have sh : ∀ {x : Rat}, Sz 1000 x → Shw (frD x) := fun z => (frD_tb z (by decide)).shw
  dsimp only [tNext]
  refine seqI (t1 := tIfS _ _ _) (fun σ' J => σ' = [some (.ref l), some (.ref r), some (.int t), some (.int b), v, none, none] ∧ Same G J) ?_ ?_
  rotate_left
  · intro Z hZ
    refine ⟨_, rfl, r, xs, qs, rfl, some_, fun r1 J1 X1 f1 => ?_⟩
    refine ⟨_, _, rfl, f1.dp, (sh zs).1, (sh zs).2.1, (sh zs).2.2.1, (sh zs).2.2.2, ?_⟩
    refine ⟨_, rfl, _, rfl, t, b, _, rfl, b0, up4 (by omega) t1, up4 (by omega) b1, e, fun r2 J2 X2 f2 => ?_⟩
    refine ⟨_, _, rfl, f2.dp, (sh zs).1, (sh zs).2.1, (sh zs).2.2.1, (sh zs).2.2.2, rfl, _, rfl, ?_⟩
    refine ite2 (fun h => ?_) (fun _ => ?_)
    · simp at h
    have X12 := X1.trans X2
    refine ⟨_, rfl, 1, rfl, slice1 (some_.1.same X12) fun p J3 X3 hp => ?_⟩
    have X13 := X12.trans X3
    refine ⟨rfl, p, _, _, rfl, some_.take X13 hp, fun r3 J4 X4 f4 => ?_⟩
    have X14 := X13.trans X4
    refine ⟨_, rfl, Nat.zero_le _, fun en hen => ?_⟩
    have X5 := new_same (o := .lst []) hen
    have X15 := X14.trans X5
    refine ⟨_, _, .lst (X15.seq hs) (hf.same X15).dp, .lst (SqL.of upd_same) .nil, frs_shaped qs, nil_shaped, _, rfl, ?_⟩
    rw [frs_nil]
    rcases sum_take1 qs with ⟨rfl, e1, e2⟩ | ⟨q, rr, rfl, e1, e2⟩
    · refine iteF ?_
      refine ⟨(by show 2 ≤ sizeLine; decide), fun tt htt => ?_⟩
      have X6 := new_same (o := .tup [.int 0, .int 1]) htt
      refine ⟨_, frD 0, ((f4.same X5).same X6).dp, (Fr.new (q := 0)).dp, frD_shaped _, frD_shaped _, _, rfl, ?_⟩
      refine neF e1 ?_
      exact hZ _ _ ⟨rfl, X15.trans X6⟩
    · refine iteT ?_
      obtain ⟨q', rr', a0, e3, h0, f0⟩ := (head_or (X15.seq hs) (hf.same X15)).resolve_left (fun z => nomatch z)
      cases e3
      refine ⟨_, rfl, l, xs, 0, .ref a0, rfl, rfl, X15.seq hs, h0, ?_⟩
      refine ⟨_, _, (f4.same X5).dp, f0.dp, frD_shaped _, frD_shaped _, _, rfl, ?_⟩
      refine neF e1 ?_
      exact hZ _ _ ⟨rfl, X15⟩
  rintro σ' J ⟨rfl, X⟩
  have hs := X.seq hs
  have hf := hf.same X
  have some_ := some_.same X
  have k : Yes J Q := fun H' s => k H' (X.trans s)
  clear X e t1 b1 b0 zs
  -- the product
  refine ⟨(by show 2 ≤ sizeLine; decide), fun p1 hp1 => ⟨p1, _, rfl, SqT.of upd_same, rfl, _, _, rfl, _, _, rfl, rfl, ?_⟩⟩
  have S1 := new_same (o := .tup [.int 1, .int 1]) hp1
  have hs := S1.seq hs
  have hf := hf.same S1
  have some_ := some_.same S1
  have k : Yes (upd J p1 (.tup [.int 1, .int 1])) Q := fun H' s => k H' (S1.trans s)
  generalize upd J p1 (.tup [.int 1, .int 1]) = H0 at *
  refine ⟨_, rfl, l, rfl, ⟨_, hs⟩, for_list (K := K) (a := l) (xs := xs) (fun i σ G => ∃ (t b : Int) (v : Option V), σ = [some (.ref l), some (.ref r), some (.int t), some (.int b), v, none, none] ∧ G = H0 ∧ 0 < b ∧ t.natAbs < 2 ^ (70 * i + 1) ∧ b.natAbs < 2 ^ (70 * i + 1) ∧ Rat.divInt t b = prodR (qs.take i))
    ⟨1, 1, _, rfl, rfl, by decide, by decide, by decide, by rw [List.take_zero]; rfl⟩ (fun i σ G _ ⟨_, _, _, _, e, _⟩ => by rw [e]; exact hs) ?_ ?_⟩
  · rintro i x σ G hx ⟨t, b, v, rfl, rfl, b0, t1, b1, e⟩
    obtain ⟨q, c, hq, rfl, hb⟩ := hf.at_ hx
    have hi : i < qs.length := (List.getElem?_eq_some_iff.mp hq).1
    have zq := sz q (List.mem_of_getElem? hq)
    have dq : (0 : Int) < q.den := by
      have := q.den_pos
      omega
    have t2 := up (n := 70 * i + 1) (by omega) t1
    have b2 := up (n := 70 * i + 1) (by omega) b1
    have e2 : 70 * (i + 1) + 1 = 70 * i + 1 + 70 := by omega
    refine ⟨_, rfl, _, rfl, c, fr q, 0, _, rfl, rfl, hb, at0 q, _, _, rfl, rfl, m9 t2 zq.top, _, rfl, _, rfl, c, fr q, 1, _, rfl, rfl, hb, at1 q, _, _, rfl, rfl, m9 b2 (sz_den zq), _, _, rfl, ?_⟩
    refine ⟨_, _, _, rfl, rfl, Int.mul_pos b0 dq, ?_, ?_, ?_⟩
    · rw [e2]
      exact wide_lt t1 zq.top
    · rw [e2]
      exact wide_lt b1 (sz_den zq)
    · rw [List.take_succ, hq, step_prod, e]
      exact (prodR_snoc q _).symm
  rintro σ G ⟨t, b, v, rfl, rfl, b0, t1, b1, e⟩
  rw [ln, List.take_length] at e
  rw [ln] at t1 b1
  have zs : Sz 1000 (prodR qs) := by
    rw [← e]
    exact sz_divInt (by omega) (Nat.lt_of_lt_of_le t1 (Nat.pow_le_pow_right (by decide) (by omega))) (Nat.lt_of_lt_of_le b1 (Nat.pow_le_pow_right (by decide) (by omega)))
  dsimp only [tNext]
  refine seqI (t1 := tIfS _ _ _) (fun σ' J => σ' = [some (.ref l), some (.ref r), some (.int t), some (.int b), v, none, none] ∧ Same G J) ?_ ?_
  rotate_left
  · intro Z hZ
    refine ⟨_, rfl, r, xs, qs, rfl, some_, fun r1 J1 X1 f1 => ?_⟩
    refine ⟨_, _, rfl, f1.dp, (sh zs).1, (sh zs).2.1, (sh zs).2.2.1, (sh zs).2.2.2, ?_⟩
    refine ⟨_, rfl, _, rfl, t, b, _, rfl, b0, up4 (by omega) t1, up4 (by omega) b1, e, fun r2 J2 X2 f2 => ?_⟩
    refine ⟨_, _, rfl, f2.dp, (sh zs).1, (sh zs).2.1, (sh zs).2.2.1, (sh zs).2.2.2, rfl, _, rfl, ?_⟩
    refine ite2 (fun h => ?_) (fun _ => ?_)
    · simp at h
    have X12 := X1.trans X2
    refine ⟨_, rfl, 1, rfl, slice1 (some_.1.same X12) fun p J3 X3 hp => ?_⟩
    have X13 := X12.trans X3
    refine ⟨rfl, p, _, _, rfl, some_.take X13 hp, fun r3 J4 X4 f4 => ?_⟩
    have X14 := X13.trans X4
    refine ⟨_, rfl, Nat.zero_le _, fun en hen => ?_⟩
    have X5 := new_same (o := .lst []) hen
    have X15 := X14.trans X5
    refine ⟨_, _, .lst (X15.seq hs) (hf.same X15).dp, .lst (SqL.of upd_same) .nil, frs_shaped qs, nil_shaped, _, rfl, ?_⟩
    rw [frs_nil]
    rcases sum_take1 qs with ⟨rfl, e1, e2⟩ | ⟨q, rr, rfl, e1, e2⟩
    · refine iteF ?_
      refine ⟨(by show 2 ≤ sizeLine; decide), fun tt htt => ?_⟩
      have X6 := new_same (o := .tup [.int 1, .int 1]) htt
      refine ⟨_, frD 1, ((f4.same X5).same X6).dp, (Fr.new (q := 1)).dp, frD_shaped _, frD_shaped _, _, rfl, ?_⟩
      refine neF e2 ?_
      exact hZ _ _ ⟨rfl, X15.trans X6⟩
    · refine iteT ?_
      obtain ⟨q', rr', a0, e3, h0, f0⟩ := (head_or (X15.seq hs) (hf.same X15)).resolve_left (fun z => nomatch z)
      cases e3
      refine ⟨_, rfl, l, xs, 0, .ref a0, rfl, rfl, X15.seq hs, h0, ?_⟩
      refine ⟨_, _, (f4.same X5).dp, f0.dp, frD_shaped _, frD_shaped _, _, rfl, ?_⟩
      refine neF e2 ?_
      exact hZ _ _ ⟨rfl, X15⟩
  rintro σ' J' ⟨rfl, X⟩
  have hs := X.seq hs
  have hf := hf.same X
  have some_ := some_.same X
  have k : Yes J' Q := fun H' s => k H' (X.trans s)
  clear X e t1 b1 b0 zs
  -- the edges
  refine ⟨_, rfl, _, rfl, -1, -1, r, xs, qs, rfl, .inl ⟨by decide, rfl⟩, some_, fun v1 G1 Y1 w1 => ?_⟩
  refine ⟨_, rfl, 1, 1, r, xs, qs, rfl, .inr ⟨by decide, rfl⟩, some_.same Y1, fun v2 G2 Y2 w2 => ?_⟩
  refine ⟨_, _, rfl, ?_⟩
  have w1 := w1.same Y2
  have Y12 := Y1.trans Y2
  have hs := Y12.seq hs
  have hf := hf.same Y12
  have some_ := some_.same Y12
  have k : Yes G2 Q := fun H' s => k H' (Y12.trans s)
  have s200 : ∀ q ∈ qs, Sz 200 q := some_.2.2.2
  refine ⟨_, rfl, _, rfl, _, rfl, l, xs, qs, v1, -1, rfl, hs, hf, few, s200, .inr rfl, w1, fun G3 Y3 => ⟨_, rfl, ?_⟩⟩
  refine iteF ?_
  refine ⟨_, rfl, _, rfl, l, xs, qs, v2, 1, rfl, Y3.seq hs, hf.same Y3, few, s200, .inl rfl, w2.same Y3, fun G4 Y4 => ⟨_, rfl, ?_⟩⟩
  refine iteF ?_
  have Y34 := Y3.trans Y4
  refine ⟨_, rfl, Nat.zero_le _, fun en hen => ?_⟩
  have Y5 := new_same (o := .lst []) hen
  have Y35 := Y34.trans Y5
  refine ⟨_, _, .lst (Y35.seq hs) (hf.same Y35).dp, .lst (SqL.of upd_same) .nil, frs_shaped qs, nil_shaped, _, rfl, ?_⟩
  rw [frs_nil]
  refine ite2 (fun _ => k _ Y35) (fun h => ?_)
  have ne : qs ≠ [] := fun z => h (by rw [z]; rfl)
  rcases w1 with ⟨z, _⟩ | ⟨_, b1, q1, rfl, best1⟩
  · exact absurd z ne
  rcases w2 with ⟨z, _⟩ | ⟨_, b2, q2, rfl, best2⟩
  · exact absurd z ne
  refine ⟨_, rfl, rfl, r, xs, qs, rfl, some_.same Y35, fun _ b3 q3 best3 => ?_, fun z => absurd z ne⟩
  refine ⟨_, rfl, _, _, best3.1.dp, (best1.1.same Y35).dp, frD_shaped _, frD_shaped _, _, rfl, ?_⟩
  rw [frD_eqv, best_one (.inr rfl) best3 best1]
  refine ite2 (fun _ => ?_) (fun h => absurd (by simp) h)
  refine ⟨_, rfl, rfl, r, xs, qs, rfl, some_.same Y35, fun _ b4 q4 best4 => ?_, fun z => absurd z ne⟩
  refine ⟨_, rfl, _, _, best4.1.dp, (best2.1.same Y35).dp, frD_shaped _, frD_shaped _, ?_⟩
  rw [frD_eqv, best_one (.inl rfl) best4 best2]
  simp only [decide_true]
  exact k _ Y35
end
end K02

set_option Elab.async false
set_option linter.all false
set_option maxRecDepth 100000
set_option maxHeartbeats 4000000
namespace K02
open PySem PySem.Spec PyProof.Rows L2 Wb Wf
/-- the heap without one list -/
def hid (H : Hp) (D : Addr) : Hp := fun b => if b = D then none else H b
theorem hid_le (H : Hp) (D : Addr) : Same (hid H D) H := fun b o h => by
  unfold hid at h
  by_cases e : b = D
  · rw [if_pos e] at h
    cases h
  · rw [if_neg e] at h
    exact h
theorem hid_mono {H H' : Hp} {D : Addr} (s : Same H H') : Same (hid H D) (hid H' D) := fun b o h => by
  unfold hid at *
  by_cases e : b = D
  · rw [if_pos e] at h
    cases h
  · rw [if_neg e] at *
    exact s b o h
theorem hid_upd {H : Hp} {d c D : Addr} {o : HO} : hid (off (upd H D o) d c) D = hid (off H d c) D := by
  funext b
  unfold hid off
  by_cases e : b = D
  · rw [if_pos e, if_pos e]
  · rw [if_neg e, if_neg e, upd_ne e]
theorem seqT_hid {K : PySem.W.Frag} {H : Hp} {D a : Addr} {xs zs : List V} (hD : H D = some (.lst zs)) (h : SqT K H a xs) : SqT K (hid H D) a xs := by
  rcases h with h | h
  · have n1 : a ≠ D := by
      rintro rfl
      rcases h with h | ⟨o, h⟩ <;> · rw [hD] at h; cases h
    have at_ : hid H D a = H a := if_neg n1
    rcases h with h | ⟨o, h⟩
    · exact .inl (.inl (at_.trans h))
    · exact .inl (.inr ⟨o, at_.trans h⟩)
  · exact .inr h
theorem Frs.insert {K : PySem.W.Frag} {H : Hp} {a : Addr} {q : Rat} (h : Fr K H a q) : ∀ (n : Nat) {xs : List V} {qs : List Rat}, Frs K H xs qs → Frs K H (xs.take n ++ [.ref a] ++ xs.drop n) (qs.take n ++ [q] ++ qs.drop n)
  | 0, xs, qs, t => by
    simp only [List.take_zero, List.drop_zero, List.nil_append]
    exact ⟨⟨a, rfl, h⟩, t⟩
  | n + 1, [], [], t => ⟨⟨a, rfl, h⟩, True.intro⟩
  | n + 1, x :: xs, p :: qs, ⟨e, t⟩ => ⟨e, Frs.insert h n t⟩
def spLaw (K : PySem.W.Frag) : Sp := fun vs H Q _ => ∃ (a : Addr) (ns : List Int), vs = [.ref a] ∧ SqL K H a (ns.map V.int) ∧ ns.length ≤ 63 ∧ ∀ H', Q (.bl true) H'
abbrev sp_law := spLaw
theorem deal_upd {H : Hp} {d c L : Addr} {o : HO} (D : Deal H d c) (n1 : L ≠ d) (n2 : L ≠ c) : Deal (upd H L o) d c := by
  obtain ⟨cs, mix, h1, h2, r⟩ := D.ex
  exact ⟨cs, mix, (upd_ne n1.symm).trans h1, (upd_ne n2.symm).trans h2, r⟩
def half : Rat := ⟨1, 2, by decide, by decide⟩
theorem sz_half : Sz 70 half := ⟨by decide, by decide⟩
theorem n1060 : (10 : Nat) ^ 60 < 2 ^ 200 := by decide
theorem neg_fr (q : Rat) : ([V.int (0 - q.num), V.int (q.den : Int)] : List V) = fr (-q) := by
  unfold fr
  rw [Rat.neg_num, Rat.neg_den, Int.zero_sub]
section
variable {P : Program} {w : World} {K : PySem.W.Frag} {mg : Str → Option Value} {base : Heap} {C_InvalidSize C_InvalidFraction C_BlankError : Addr}
theorem sc_law : FnScope ["script", "deal", "turn", "great", "one", "other", "third", "some", "row"] ["script"] (defScope s_law) := ⟨rfl, rfl, rfl, by decide +kernel, rfl, by decide +kernel, by decide +kernel⟩
theorem ok_law (D : Def K mg "law" s_law ["script"]) (C_source : Cal P w K mg base CX0 1 "_law_source" s_source ["script"] (spSource K)) (n_range : mg "range" = none) (C_of : Cal P w K mg base CX0 2 "_law_of" s_of ["deal", "some"] (spOf K)) (C_frac : Cal P w K mg base CX0 4 "_law_fraction" s_frac ["deal", "great"] (sp_frac K)) (C_pair : CalG P w K mg base CX0 6 "_law_pair_right" s_pair ["one", "other"] (sp_pair K)) (C_oner : CalG P w K mg base CX0 3 "_law_one_right" s_oner ["one"] (sp_oner K)) (C_undone : Cal P w K mg base CX0 5 "_law_undone" s_undone ["one", "other", "third"] (sp_undone K)) (C_any : Cal P w K mg base CX0 1 "_law_any" s_any ["deal", "bound"] spAny) (n_len : mg "len" = none) (n_tuple : mg "tuple" = none) (n_list : mg "list" = none) (C_rowR : CalG P w K mg base CX0 6 "_law_row_right" s_rowR ["some", "row"] (sp_rowR K)) : CalG P w K mg base CX0 7 "law" s_law ["script"] (sp_law K) := by
  refine D.okG sc_law (fun vs H Q E h => ?_) (fun cdv f A outer s H vs Q E gd hr h => ?_)
  · obtain ⟨a, ns, rfl, _⟩ := h
    rfl
  obtain ⟨a, ns, rfl, hs, few, k⟩ := h
  refine ⟨_, (pss_cons (ps_set (i := 1) sc_law.nd rfl (Or.inr rfl) (pe_cal C_source (hr.mono (by decide)) (by rfl) pass0 (pa_cons (pv 0) pa_nil)))
    (pss_cons (ps_for PassesOwn.leaving rfl (pi_range1 rfl n_range (pa_cons pe_int pa_nil)) (pg_name (i := 2) sc_law.nd rfl (Or.inl rfl)) (pss_cons (ps_set (i := 3) sc_law.nd rfl (Or.inr rfl) (pe_cal C_of (hr.mono (by decide)) (by rfl) pass0 (pa_cons (pv 1) (pa_cons (pe_lst (pa_cons (pe_op op_pow pe_int pe_int) (pa_cons (pe_op op_pow pe_int pe_int) (pa_cons (pe_op op_pow pe_int pe_int) pa_nil)))) pa_nil))))
      (pss_cons (ps_par3 (i := 4) (j := 5) (l := 6) rfl sc_law.nd rfl rfl rfl (by decide) (by decide) (by decide) rfl rfl rfl (pa_cons (pe_cal C_frac (hr.mono (by decide)) (by rfl) pass0 (pa_cons (pv 1) (pa_cons (pv 3) pa_nil))) (pa_cons (pe_cal C_frac (hr.mono (by decide)) (by rfl) pass0 (pa_cons (pv 1) (pa_cons (pv 3) pa_nil))) (pa_cons (pe_cal C_frac (hr.mono (by decide)) (by rfl) pass0 (pa_cons (pv 1) (pa_cons (pv 3) pa_nil))) pa_nil))) (by rfl))
      (pss_cons (ps_set (i := 5) sc_law.nd rfl (Or.inl rfl) (pe_cal C_of (hr.mono (by decide)) (by rfl) pass0 (pa_cons (pv 1) (pa_cons (pe_lst (pa_cons (pv 5) (pa_cons (pv 5) (pa_cons (pv 5) (pa_cons (pv 4) (pa_cons (pe_tup (pa_cons (pe_op op_sub pe_int (pe_ix ix_tup (pv 4) pe_int (fun _ _ => rfl))) (pa_cons (pe_ix ix_tup (pv 4) pe_int (fun _ _ => rfl)) pa_nil))) (pa_cons (pe_tup (pa_cons pe_int (pa_cons pe_int pa_nil))) pa_nil))))))) pa_nil))))
      (pss_cons (ps_if (PW.pt (pw_or (pt_not (pt_val (pe_calG C_pair gd (hr.mono (by decide)) (by rfl) pass0 (pa_cons (pv 4) (pa_cons (pv 5) pa_nil))))) (pw_or (pt_not (pt_val (pe_calG C_pair gd (hr.mono (by decide)) (by rfl) pass0 (pa_cons (pv 5) (pa_cons (pv 6) pa_nil))))) (pw_or1 (pt_not (pt_val (pe_calG C_oner gd (hr.mono (by decide)) (by rfl) pass0 (pa_cons (pv 4) pa_nil)))))))) (pss_one (ps_ret pe_bl)) pss_nil)
      (pss_one (ps_if (PW.pt (pw_and (pt_cmpR op_lt (pv 3) (pe_op op_pow pe_int pe_int) (nomark _)) (pw_and1 (pt_not (pt_val (pe_cal C_undone (hr.mono (by decide)) (by rfl) pass0 (pa_cons (pv 4) (pa_cons (pv 5) (pa_cons (pv 6) pa_nil))))))))) (pss_one (ps_ret pe_bl)) pss_nil)))))))
    (pss_cons (ps_set (i := 3) sc_law.nd rfl (Or.inr rfl) (pe_cal C_of (hr.mono (by decide)) (by rfl) pass0 (pa_cons (pv 1) (pa_cons (pe_lst (pa_cons (pe_op op_pow pe_int pe_int) (pa_cons (pe_op op_pow pe_int pe_int) (pa_cons (pe_op op_pow pe_int pe_int) pa_nil)))) pa_nil))))
    (pss_cons (ps_setLc (i := 7) (own := [("turn", 2)]) (g := gName 2) (tt := tYes) rfl sc_law.nd rfl rfl (sw_true rfl rfl rfl (by decide +kernel)) (pi_range1 rfl n_range (pa_cons (pe_cal C_any (hr.mono (by decide)) (by rfl) pass0 (pa_cons (pv 1) (pa_cons pe_int pa_nil))) pa_nil)) (blkOk_by (own := [("turn", 2)]) (N := ["script", "deal", "turn", "great", "one", "other", "third", "some", "row"]) (sc := defScope s_law) (by decide +kernel)) (fun _ _ _ _ _ => (pg_name (i := 2) sc_law.nd rfl (Or.inl rfl))) (fun _ _ _ _ _ => pts_nil) (fun _ _ _ _ _ => (pe_cal C_frac (hr.mono (by decide)) (by rfl) pass0 (pa_cons (pv 1) (pa_cons (pv 3) pa_nil)))))
    (pss_cons (ps_for PassesOwn.leaving rfl (pi_range1 rfl n_range (pa_cons (pe_cal C_any (hr.mono (by decide)) (by rfl) pass0 (pa_cons (pv 1) (pa_cons pe_int pa_nil))) pa_nil)) (pg_name (i := 2) sc_law.nd rfl (Or.inl rfl)) (pss_one (ps_expr (pe_bm PySem.F.plainAttrs_list PySem.F.slot_list_insert PySem.F.type_list_insert mt_insert (pv 7) (pa_cons (pe_cal C_any (hr.mono (by decide)) (by rfl) pass0 (pa_cons (pv 1) (pa_cons (pe_op op_add (pe_callB call_len (by rfl) n_len (by decide +kernel) (pa_cons (pv 7) pa_nil)) pe_int) pa_nil))) (pa_cons (pe_ifExp (pt_cmpR (op_neD hr.units) (pv 7) (pe_lst pa_nil) (nomark _)) (pe_ix ix_list (pv 7) pe_int (fun _ _ => rfl)) (pe_tup (pa_cons pe_int (pa_cons pe_int pa_nil)))) pa_nil))))))
    (pss_cons (ps_set (i := 8) sc_law.nd rfl (Or.inl rfl) (pe_ifExp (pt_cmpR op_eq (pe_cal C_any (hr.mono (by decide)) (by rfl) pass0 (pa_cons (pv 1) (pa_cons pe_int pa_nil))) pe_int (nomark _)) (pe_callTy call_tuple_of (by rfl) n_tuple (by decide +kernel) (pa_cons (pv 7) pa_nil)) (pe_callTy call_list_of (by rfl) n_list (by decide +kernel) (pa_cons (pv 7) pa_nil))))
    (pss_cons (ps_for PassesOwn.leaving rfl (pi_list (pv 7)) (pg_name (i := 4) sc_law.nd rfl (Or.inl rfl)) (pss_one (ps_if (pt_not (pt_val (pe_calG C_oner gd (hr.mono (by decide)) (by rfl) pass0 (pa_cons (pv 4) pa_nil)))) (pss_one (ps_ret pe_bl)) pss_nil)))
    (pss_one (ps_ret (pe_and (pe_calG C_rowR gd (hr.mono (by decide)) (by rfl) pass0 (pa_cons (pv 7) (pa_cons (pv 8) pa_nil))) (pe_one (pe_cmpR (op_eqD hr.units) (pe_callTy call_list_of (by rfl) n_list (by decide +kernel) (pa_cons (pv 8) pa_nil)) (pv 7) (nomark _))))))))))))), ?_⟩
  refine ⟨_, rfl, a, ns, rfl, hs, few, fun d c H1 _ _ D1 _ => ?_⟩
  clear hs few
  refine ⟨3, rfl, by decide, by decide, for_range (n := 3) (fun i σ G => ∃ v2 v3 v4 v5 v6, σ = [some (.ref a), some (.ref d), v2, v3, v4, v5, v6, none, none] ∧ Deal G d c) ⟨_, _, _, _, _, rfl, D1⟩ ?_ ?_⟩
  · rintro i σ G hi ⟨v2, v3, v4, v5, v6, rfl, D⟩
    -- how great
    refine ⟨_, rfl, _, _, rfl, rfl, ⟨by decide, by decide, by decide⟩, _, _, rfl, rfl, ⟨by decide, by decide, by decide⟩, _, _, rfl, rfl, ⟨by decide, by decide, by decide⟩, (by show 3 ≤ sizeLine; decide), fun l hl => ?_⟩
    have Dl := D.same (new_same (o := .lst [.int (10 ^ (15 : Int).toNat), .int (10 ^ (15 : Int).toNat), .int (10 ^ (60 : Int).toNat)]) hl)
    have fl := D.free hl
    refine ⟨d, c, .ref l, rfl, Dl, .inl ⟨l, _, rfl, SqL.of (off_new fl.1 fl.2), by simp, (by show 3 ≤ 1000; decide), fun v G1 hv D1 _ => ?_⟩⟩
    obtain ⟨g, rfl, g1, g2⟩ : ∃ g : Int, v = .int g ∧ 1 < g ∧ g ≤ (((10 ^ 60 : Nat)) : Int) := by
      simp only [List.mem_cons, List.not_mem_nil, or_false] at hv
      rcases hv with rfl | rfl | rfl <;> exact ⟨_, rfl, by decide, by decide⟩
    -- three fractions
    refine ⟨_, rfl, _, rfl, d, c, g, 10 ^ 60, 200, rfl, D1, g1, g2, by decide, n1060, by decide, fun x1 p G2 zp hp D2 S2 => ?_⟩
    refine ⟨_, rfl, _, rfl, d, c, g, 10 ^ 60, 200, rfl, D2, g1, g2, by decide, n1060, by decide, fun x2 q G3 zq hq D3 S3 => ?_⟩
    refine ⟨_, rfl, _, rfl, d, c, g, 10 ^ 60, 200, rfl, D3, g1, g2, by decide, n1060, by decide, fun x3 r G4 zr hr' D4 S4 => ?_⟩
    refine ⟨_, _, _, rfl, ?_⟩
    have hp : Fr K (off G4 d c) x1 p := (hp.same S3).same S4
    have hq : Fr K (off G4 d c) x2 q := hq.same S4
    clear S2 S3 S4
    have le4 := off_le G4 d c
    -- another one
    refine ⟨_, rfl, _, rfl, _, rfl, _, rfl, _, rfl, _, rfl, x1, fr p, 0, _, rfl, rfl, hp.same le4, at0 p, _, _, rfl, rfl, _, rfl, x1, fr p, 1, _, rfl, rfl, hp.same le4, at1 p, (by show 2 ≤ sizeLine; decide), fun t1 ht1 => ?_⟩
    have f1 := D4.free ht1
    have N1 := new_same (o := .tup [.int (0 - p.num), .int (p.den : Int)]) ht1
    have E1 := D4.same N1
    have hn : Fr K (off (upd G4 t1 (.tup [.int (0 - p.num), .int (p.den : Int)])) d c) t1 (-p) := by
      unfold Fr
      rw [← neg_fr]
      exact SqT.of (off_new f1.1 f1.2)
    refine ⟨(by show 2 ≤ sizeLine; decide), fun t2 ht2 => ?_⟩
    have f2 := E1.free ht2
    have N2 := new_same (o := .tup [.int 0, .int 1]) ht2
    have E2 := E1.same N2
    refine ⟨(by show 6 ≤ sizeLine; decide), fun l2 hl2 => ?_⟩
    have f3 := E2.free hl2
    have N3 := new_same (o := .lst [.ref x2, .ref x2, .ref x2, .ref x1, .ref t1, .ref t2]) hl2
    have E3 := E2.same N3
    have N123 := (off_mono (d := d) (c := c) N1).trans ((off_mono N2).trans (off_mono N3))
    have hn := (hn.same (off_mono N2)).same (off_mono N3)
    have h0 : Fr K (off (upd (upd (upd G4 t1 (.tup [.int (0 - p.num), .int (p.den : Int)])) t2 (.tup [.int 0, .int 1])) l2 (.lst [.ref x2, .ref x2, .ref x2, .ref x1, .ref t1, .ref t2])) d c) t2 0 :=
      Fr.same (SqT.of (off_new f2.1 f2.2)) (off_mono N3)
    have hp := hp.same N123
    have hq := hq.same N123
    have hr' := hr'.same N123
    refine ⟨d, c, .ref l2, rfl, E3, .inl ⟨l2, _, rfl, SqL.of (off_new f3.1 f3.2), by simp, (by show 6 ≤ 1000; decide), fun v G5 hv D5 S5 => ?_⟩⟩
    obtain ⟨x2', q', rfl, zq', hq'⟩ : ∃ x q', v = .ref x ∧ Sz 201 q' ∧ Fr K (off G5 d c) x q' := by
      simp only [List.mem_cons, List.not_mem_nil, or_false] at hv
      rcases hv with rfl | rfl | rfl | rfl | rfl | rfl
      · exact ⟨_, q, rfl, zq, hq.same S5⟩
      · exact ⟨_, q, rfl, zq, hq.same S5⟩
      · exact ⟨_, q, rfl, zq, hq.same S5⟩
      · exact ⟨_, p, rfl, zp, hp.same S5⟩
      · exact ⟨_, -p, rfl, zp.neg, hn.same S5⟩
      · exact ⟨_, 0, rfl, ⟨by decide, by decide⟩, h0.same S5⟩
    have hp : Fr K G5 x1 p := (hp.same S5).same (off_le _ _ _)
    have hr' : Fr K G5 x3 r := (hr'.same S5).same (off_le _ _ _)
    have hq' : Fr K G5 x2' q' := hq'.same (off_le _ _ _)
    have zp : Sz 210 p := zp.mono (by decide)
    have zq' : Sz 210 q' := zq'.mono (by decide)
    have zr : Sz 210 r := zr.mono (by decide)
    -- what is due
    refine ⟨_, rfl, _, rfl, x1, x2', p, q', rfl, hp, hq', zp, zq', fun J1 T1 => ⟨_, rfl, ?_⟩⟩
    refine iteF ?_
    refine ⟨_, rfl, _, rfl, x2', x3, q', r, rfl, hq'.same T1, hr'.same T1, zq', zr, fun J2 T2 => ⟨_, rfl, ?_⟩⟩
    refine iteF ?_
    have T12 := T1.trans T2
    refine ⟨_, rfl, x1, p, rfl, hp.same T12, zp, fun J3 T3 => ⟨_, rfl, ?_⟩⟩
    refine iteF ?_
    have T13 := T12.trans T3
    refine ⟨_, rfl, _, _, rfl, rfl, ⟨by decide, by decide, by decide⟩, _, _, rfl, rfl, _, rfl, ?_⟩
    refine ite2 (fun _ => ?_) (fun _ => ?_)
    · refine ⟨_, rfl, _, rfl, _, rfl, x1, x2', x3, p, q', r, rfl, hp.same T13, hq'.same T13, hr'.same T13, zp, zq', zr, fun J4 T4 => ⟨_, rfl, ?_⟩⟩
      refine iteF ?_
      exact ⟨_, _, _, _, _, rfl, D5.same (T13.trans T4)⟩
    · exact ⟨_, _, _, _, _, rfl, D5.same T13⟩
  rintro σ G ⟨v2, v3, v4, v5, v6, rfl, D⟩
  -- a row
  refine ⟨_, rfl, _, _, rfl, rfl, ⟨by decide, by decide, by decide⟩, _, _, rfl, rfl, ⟨by decide, by decide, by decide⟩, _, _, rfl, rfl, ⟨by decide, by decide, by decide⟩, (by show 3 ≤ sizeLine; decide), fun l hl => ?_⟩
  have Dl := D.same (new_same (o := .lst [.int (10 ^ (3 : Int).toNat), .int (10 ^ (9 : Int).toNat), .int (10 ^ (20 : Int).toNat)]) hl)
  have fl := D.free hl
  refine ⟨d, c, .ref l, rfl, Dl, .inl ⟨l, _, rfl, SqL.of (off_new fl.1 fl.2), by simp, (by show 3 ≤ 1000; decide), fun v G1 hv D1 _ => ?_⟩⟩
  obtain ⟨g, rfl, g1, g2⟩ : ∃ g : Int, v = .int g ∧ 1 < g ∧ g ≤ (((10 ^ 20 : Nat)) : Int) := by
    simp only [List.mem_cons, List.not_mem_nil, or_false] at hv
    rcases hv with rfl | rfl | rfl <;> exact ⟨_, rfl, by decide, by decide⟩
  refine ⟨_, rfl, d, c, 9, rfl, D1, by decide, by decide, fun m G2 m0 m9 D2 _ => ?_⟩
  obtain ⟨n, rfl⟩ := Int.eq_ofNat_of_zero_le m0
  refine ⟨n, rfl, by omega, by omega, fun L hL => ?_⟩
  have fL := D2.free hL
  refine lc_range (lo := 0) (n := n) (fun i J => ∃ (xs : List V) (qs : List Rat), J L = some (.lst xs) ∧ Frs K (hid (off J d c) L) xs qs ∧ qs.length = i ∧ (∀ q ∈ qs, Sz 70 q) ∧ Deal J d c) ⟨[], [], upd_same, True.intro, rfl, (fun q h => nomatch h), D2.same (new_same hL)⟩ ?_ ?_
  · rintro i J hi ⟨xs, qs, hJ, hf, hl', sz, DJ⟩
    have atL : off J d c L = some (.lst xs) := (off_at fL.1 fL.2).trans hJ
    refine ⟨rfl, ?_⟩
    refine ⟨_, rfl, _, rfl, d, c, g, 10 ^ 20, 67, rfl, DJ, g1, g2, by decide, by decide, by decide, fun x q J2 zq hq DJ2 S => ?_⟩
    have at2 : off J2 d c L = some (.lst xs) := S _ _ atL
    have ln := hf.len
    refine ⟨xs, (off_some at2).1, ?_, xs ++ [.ref x], qs ++ [q], upd_same, ?_, by simp [hl'], ?_, deal_upd DJ2 fL.1 fL.2⟩
    · rw [sizeLine_eq]
      omega
    · rw [hid_upd]
      exact Frs.snoc (seqT_hid at2 hq) (hf.same (hid_mono S))
    · intro y hy
      rcases List.mem_append.mp hy with h | h
      · exact sz y h
      · simp at h
        rw [h]
        exact zq.mono (by decide)
  rintro J ⟨xs, qs, hJ, hf, hl', sz, DJ⟩
  have atL : off J d c L = some (.lst xs) := (off_at fL.1 fL.2).trans hJ
  refine ⟨_, rfl, d, c, 4, rfl, DJ, by decide, by decide, fun m' G3 m0' m4 D3 S3 => ?_⟩
  obtain ⟨n', rfl⟩ := Int.eq_ofNat_of_zero_le m0'
  have at3 : off G3 d c L = some (.lst xs) := S3 _ _ atL
  have hf3 := hf.same (hid_mono (D := L) S3)
  refine ⟨n', rfl, by omega, by omega, for_range (n := n') (fun i σ J => ∃ (v2 : Option V) (xs : List V) (qs : List Rat), σ = [some (.ref a), some (.ref d), v2, some (.int g), v4, v5, v6, some (.ref L), none] ∧ J L = some (.lst xs) ∧ Frs K (hid (off J d c) L) xs qs ∧ qs.length = n + i ∧ (∀ q ∈ qs, Sz 70 q) ∧ Deal J d c)
    ⟨_, xs, qs, rfl, (off_some at3).1, hf3, hl', sz, D3⟩ ?_ ?_⟩
  · clear hJ hf hl' sz DJ atL at3 hf3 S3 D3
    rintro i σ J hi ⟨v2, xs, qs, rfl, hJ, hf, hl', sz, DJ⟩
    have atL : off J d c L = some (.lst xs) := (off_at fL.1 fL.2).trans hJ
    have ln := hf.len
    have fin : ∀ (J3 : Hp) (y : Addr) (q : Rat) (j : Nat), J3 L = some (.lst xs) → Frs K (hid (off J3 d c) L) xs qs → Deal J3 d c → Fr K (hid (off J3 d c) L) y q → Sz 70 q → j ≤ xs.length →
        ∃ (v2 : Option V) (zs : List V) (ps : List Rat), [some (.ref a), some (.ref d), some (V.int (0 + (i : Int))), some (.int g), v4, v5, v6, some (.ref L), none] = [some (.ref a), some (.ref d), v2, some (.int g), v4, v5, v6, some (.ref L), none] ∧
          (upd J3 L (.lst (xs.take j ++ [.ref y] ++ xs.drop j))) L = some (.lst zs) ∧ Frs K (hid (off (upd J3 L (.lst (xs.take j ++ [.ref y] ++ xs.drop j))) d c) L) zs ps ∧ ps.length = n + (i + 1) ∧ (∀ q ∈ ps, Sz 70 q) ∧ Deal (upd J3 L (.lst (xs.take j ++ [.ref y] ++ xs.drop j))) d c := by
      intro J3 y q j h1 h2 h3 h4 h5 h6
      refine ⟨_, _, qs.take j ++ [q] ++ qs.drop j, rfl, upd_same, ?_, ?_, ?_, deal_upd h3 fL.1 fL.2⟩
      · rw [hid_upd]
        exact Frs.insert h4 j h2
      · simp
        omega
      · intro z hz
        rcases List.mem_append.mp hz with h | h
        · rcases List.mem_append.mp h with h | h
          · exact sz z (List.mem_of_mem_take h)
          · simp at h
            rw [h]
            exact h5
        · exact sz z (List.mem_of_mem_drop h)
    refine ⟨_, rfl, .inl ⟨rfl, _, SqL.of hJ⟩, _, rfl, _, rfl, _, xs.length, rfl, .inl ⟨xs, SqL.of hJ, rfl⟩, _, _, rfl, rfl, d, c, _, rfl, DJ, by omega, by omega, fun m J2 mm0 mm1 DJ2 S => ?_⟩
    obtain ⟨j, rfl⟩ := Int.eq_ofNat_of_zero_le mm0
    have at2 : off J2 d c L = some (.lst xs) := S _ _ atL
    have hf2 := hf.same (hid_mono (D := L) S)
    have le2 : Same (hid (off J2 d c) L) J2 := (hid_le _ _).trans (off_le _ _ _)
    refine ⟨_, rfl, Nat.zero_le _, fun e he => ?_⟩
    have T1 := new_same (o := .lst []) he
    have hf3 := hf2.same (hid_mono (D := L) (off_mono (d := d) (c := c) T1))
    have le3 : Same (hid (off (upd J2 e (.lst [])) d c) L) (upd J2 e (.lst [])) := (hid_le _ _).trans (off_le _ _ _)
    have atJ3 : (upd J2 e (.lst [])) L = some (.lst xs) := T1 _ _ (off_some at2).1
    refine ⟨_, _, .lst (SqL.of atJ3) (hf3.same le3).dp, .lst (SqL.of upd_same) .nil, frs_shaped qs, nil_shaped, _, rfl, ?_⟩
    rw [frs_nil]
    have DJ3 := DJ2.same T1
    generalize upd J2 e (.lst []) = J3 at *
    have short : xs.length ≤ 20 := by omega
    have hf4 := hf3
    cases qs with
    | nil =>
      refine iteF ?_
      refine ⟨(by show 2 ≤ sizeLine; decide), fun t ht => ?_⟩
      have T2 := new_same (o := .tup [.int 1, .int 2]) ht
      refine ⟨L, xs, (j : Int), .ref t, rfl, rfl, T2 _ _ atJ3, by rw [sizeLine_eq]; omega, by omega, by omega, ?_⟩
      refine fin _ t half j (T2 _ _ atJ3) (hf3.same (hid_mono (off_mono T2))) (DJ3.same T2) ?_ sz_half (by omega)
      have ft := DJ3.free ht
      have nt : t ≠ L := by
        rintro rfl
        rw [atJ3] at ht
        cases ht
      refine SqT.of ?_
      show hid (off (upd J3 t _) d c) L t = _
      unfold hid
      rw [if_neg nt, off_new ft.1 ft.2]
      rfl
    | cons q qs =>
      refine iteT ?_
      obtain ⟨x0, r0, e3⟩ : ∃ x0 r0, xs = x0 :: r0 := by
        cases xs with
        | nil => exact hf3.elim
        | cons x0 r0 => exact ⟨x0, r0, rfl⟩
      subst e3
      obtain ⟨⟨a0, rfl, f0⟩, _⟩ := hf3
      refine ⟨_, rfl, L, _, 0, .ref a0, rfl, rfl, SqL.of atJ3, atI_nat (j := 0) rfl, ?_⟩
      refine ⟨L, _, (j : Int), .ref a0, rfl, rfl, atJ3, by rw [sizeLine_eq]; omega, by omega, by omega, ?_⟩
      exact fin _ a0 q j atJ3 hf4 DJ3 f0 (sz q List.mem_cons_self) (by omega)
  clear hJ hf hl' sz DJ atL at3 hf3 S3 D3
  rintro σ J ⟨v2, xs, qs, rfl, hJ, hf, hl', sz, DJ⟩
  have atL : off J d c L = some (.lst xs) := (off_at fL.1 fL.2).trans hJ
  have few : qs.length ≤ 13 := by omega
  -- as it is handed in
  dsimp only [tNext]
  refine seqI (t1 := tAsg _ _) (fun σ' J => ∃ r : Addr, σ' = [some (.ref a), some (.ref d), v2, some (.int g), v4, v5, v6, some (.ref L), some (.ref r)] ∧ SqL K J L xs ∧ SqE K J r xs ∧ Frs K J xs qs) ?_ ?_
  rotate_left
  · intro Z hZ
    refine ⟨_, rfl, d, c, 2, rfl, DJ, by decide, by decide, fun m G4 _ _ D4 S4 => ?_⟩
    have at4 : G4 L = some (.lst xs) := (off_some (S4 _ _ atL)).1
    have hf4 : Frs K G4 xs qs := (hf.same (hid_mono (D := L) S4)).same ((hid_le _ _).trans (off_le _ _ _))
    refine ⟨rfl, _, rfl, ?_⟩
    refine ite2 (fun _ => ?_) (fun _ => ?_)
    · refine ⟨_, rfl, L, xs, rfl, .inl ⟨SqL.of at4, fun r hr => ?_⟩⟩
      have T := new_same (o := .tup xs) hr
      exact hZ _ _ ⟨r, rfl, T.seq (SqL.of at4), .inr (SqT.of upd_same), hf4.same T⟩
    · refine ⟨_, rfl, L, xs, rfl, .inl (SqL.of at4), fun r hr => ?_⟩
      have T := new_same (o := .lst xs) hr
      exact hZ _ _ ⟨r, rfl, T.seq (SqL.of at4), .inl (SqL.of upd_same), hf4.same T⟩
  rintro σ' R ⟨r, rfl, hs, he, hf⟩
  refine ⟨_, rfl, L, rfl, ⟨_, hs⟩, for_list (K := K) (a := L) (xs := xs) (fun i σ J => ∃ v4 : Option V, σ = [some (.ref a), some (.ref d), v2, some (.int g), v4, v5, v6, some (.ref L), some (.ref r)] ∧ Same R J) ⟨_, rfl, Same.refl _⟩ (fun i σ J _ ⟨_, _, s⟩ => s.seq hs) ?_ ?_⟩
  · rintro i x σ J hx ⟨v4, rfl, X⟩
    obtain ⟨q, b, hq, rfl, hb⟩ := hf.at_ hx
    refine ⟨_, rfl, b, q, rfl, hb.same X, (sz q (List.mem_of_getElem? hq)).mono (by decide), fun J2 T => ⟨_, rfl, ?_⟩⟩
    refine iteF ?_
    exact ⟨_, rfl, X.trans T⟩
  rintro σ J ⟨v4, rfl, X⟩
  refine ⟨_, rfl, _, rfl, L, r, xs, qs, rfl, X.seq hs, he.same X, hf.same X, few, sz, fun J2 T => ⟨_, rfl, ?_⟩⟩
  refine iteT ?_
  have XT := X.trans T
  refine ⟨_, rfl, r, xs, rfl, he.same XT, fun l2 hl2 => ?_⟩
  have T2 := new_same (o := .lst xs) hl2
  refine ⟨_, rfl, _, _, .lst (SqL.of upd_same) (hf.same (XT.trans T2)).dp, .lst ((XT.trans T2).seq hs) (hf.same (XT.trans T2)).dp, frs_shaped qs, frs_shaped qs, ?_⟩
  have e : PyData.eqv (.list (qs.map frD)) (.list (qs.map frD)) = true := by
    simp only [PyData.eqv]
    exact frs_eqv qs
  rw [e]
  exact k _
end
end K02

set_option Elab.async false
set_option linter.all false
set_option maxRecDepth 100000
set_option maxHeartbeats 4000000
/-! K02p: product_all, reduced at each step -/
namespace K02
open PySem PySem.Spec PyProof.Rows L2 Wb Wf
theorem mul_parts (p q : Rat) : (p.num / ((Nat.gcd p.num.natAbs ((q.den : Int)).natAbs : Nat) : Int)) * (q.num / ((Nat.gcd q.num.natAbs ((p.den : Int)).natAbs : Nat) : Int)) = (p * q).num ∧ ((p.den : Int) / ((Nat.gcd q.num.natAbs ((p.den : Int)).natAbs : Nat) : Int)) * ((q.den : Int) / ((Nat.gcd p.num.natAbs ((q.den : Int)).natAbs : Nat) : Int)) = ((p * q).den : Int) := by
  simp only [Int.natAbs_natCast]
  have a1 : ((Nat.gcd p.num.natAbs q.den : Nat) : Int) ∣ p.num := Int.dvd_natAbs.mp (Int.natCast_dvd_natCast.mpr (Nat.gcd_dvd_left _ _))
  have a2 : ((Nat.gcd q.num.natAbs p.den : Nat) : Int) ∣ q.num := Int.dvd_natAbs.mp (Int.natCast_dvd_natCast.mpr (Nat.gcd_dvd_left _ _))
  have e : p * q = Rat.mul p q := rfl
  rw [e]
  unfold Rat.mul
  simp only [Int.divExact_eq_tdiv, Nat.divExact_eq_div]
  constructor
  · rw [Int.tdiv_eq_ediv_of_dvd a1, Int.tdiv_eq_ediv_of_dvd a2]
  · rw [Int.natCast_mul, Int.natCast_ediv, Int.natCast_ediv]

theorem prod_bits {qs : List Rat} {i : Nat} {q : Rat} (hq : qs[i]? = some q) : prodR (qs.take i) * q = prodR (qs.take (i + 1)) := by
  rw [List.take_succ, hq]
  exact (prodR_snoc q _).symm
theorem fdiv_lt {x : Int} {n k : Nat} (h0 : 0 < n) (hx : x.natAbs < 2 ^ k) : (x / (n : Int)).natAbs < 2 ^ k := by
  refine Nat.lt_of_le_of_lt ?_ hx
  exact Int.natAbs_ediv_le_natAbs _ _
theorem prod_step {p q : Rat} {i n : Nat} (few : n ≤ 13) (hi : i < n) (sp : Sz (200 * i + 1) p) (zq : Sz 200 q) :
    (∀ x : Int, CDivW x ((Nat.gcd p.num.natAbs ((q.den : Int)).natAbs : Nat) : Int)) ∧ (∀ x : Int, CDivW x ((Nat.gcd q.num.natAbs ((p.den : Int)).natAbs : Nat) : Int)) ∧
    CMulW (p.num / ((Nat.gcd p.num.natAbs ((q.den : Int)).natAbs : Nat) : Int)) (q.num / ((Nat.gcd q.num.natAbs ((p.den : Int)).natAbs : Nat) : Int)) ∧
    CMulW ((p.den : Int) / ((Nat.gcd q.num.natAbs ((p.den : Int)).natAbs : Nat) : Int)) ((q.den : Int) / ((Nat.gcd p.num.natAbs ((q.den : Int)).natAbs : Nat) : Int)) ∧
    (p.num / ((Nat.gcd p.num.natAbs ((q.den : Int)).natAbs : Nat) : Int)) * (q.num / ((Nat.gcd q.num.natAbs ((p.den : Int)).natAbs : Nat) : Int)) = (p * q).num ∧
    ((p.den : Int) / ((Nat.gcd q.num.natAbs ((p.den : Int)).natAbs : Nat) : Int)) * ((q.den : Int) / ((Nat.gcd p.num.natAbs ((q.den : Int)).natAbs : Nat) : Int)) = ((p * q).den : Int) ∧
    (p * q).num.natAbs < 2 ^ (200 * (i + 1) + 1) ∧ (p * q).den < 2 ^ (200 * (i + 1) + 1) := by
  obtain ⟨e1, e2⟩ := mul_parts p q
  have A0 : 0 < Nat.gcd p.num.natAbs ((q.den : Int)).natAbs := Nat.gcd_pos_of_pos_right _ (by have := q.den_pos; omega)
  have B0 : 0 < Nat.gcd q.num.natAbs ((p.den : Int)).natAbs := Nat.gcd_pos_of_pos_right _ (by have := p.den_pos; omega)
  have A1 : Nat.gcd p.num.natAbs ((q.den : Int)).natAbs < 2 ^ 200 := Nat.lt_of_le_of_lt (Nat.gcd_le_right _ (by have := q.den_pos; omega)) (sz_den zq)
  have B1 : Nat.gcd q.num.natAbs ((p.den : Int)).natAbs < 2 ^ (200 * i + 1) := Nat.lt_of_le_of_lt (Nat.gcd_le_right _ (by have := p.den_pos; omega)) (sz_den sp)
  have m1 := fdiv_lt A0 sp.top
  have m2 := fdiv_lt B0 zq.top
  have m3 := fdiv_lt B0 (sz_den sp)
  have m4 := fdiv_lt A0 (sz_den zq)
  have e : 200 * (i + 1) + 1 = 200 * i + 1 + 200 := by omega
  refine ⟨fun x => wide_div (b := 200) (by omega) (by rw [Int.natAbs_natCast]; exact A1) (by decide) (by decide), fun x => wide_div (b := 200 * i + 1) (by omega) (by rw [Int.natAbs_natCast]; exact B1) (by omega) (by omega), wide_mul m1 m2 (by omega) (by decide) (by omega), wide_mul m3 m4 (by omega) (by decide) (by omega), e1, e2, ?_, ?_⟩
  · rw [e, ← e1]
    exact wide_lt m1 m2
  · have l := wide_lt m3 m4
    rw [e2, Int.natAbs_natCast] at l
    rw [e]
    exact l
section
theorem sc_product : FnScope ["some", "product", "one", "above", "below"] ["some"] (defScope s_product) := ⟨rfl, rfl, rfl, by decide +kernel, rfl, by decide +kernel, by decide +kernel⟩
variable {P : Program} {w : World} {K : PySem.W.Frag} {mg : Str → Option Value} {base : Heap} {a_ONE : Addr}
theorem okk_product (D : Def K mg "product_all" s_product ["some"]) (m_gcd : mg "gcd" = some (.builtin "math.gcd")) (m_ONE : mg "ONE" = some (.ref a_ONE)) (c_ONE : ∀ H, SqT K H a_ONE [.int 1, .int 1]) : Cal P w K mg base CX0 4 "product_all" s_product ["some"] (spProduct K) := by
  refine D.ok sc_product (fun vs H Q E h => ?_) (fun cdv f A outer s H vs Q E hr h => ?_)
  · obtain ⟨a, xs, qs, rfl, _⟩ := h
    rfl
  obtain ⟨a, xs, qs, rfl, ⟨hs, hf, few, sz⟩, k⟩ := h
  have ln := hf.len
  have z0 : Sz (200 * 0 + 1) (prodR (qs.take 0)) := by rw [List.take_zero]; exact ⟨by decide, by decide⟩
  rcases hs with hs | hs
  · refine ⟨_, (pss_cons (ps_set (i := 1) sc_product.nd rfl (Or.inl rfl) (pe_glob (by rfl) m_ONE (show RelV (.ref a_ONE) (.ref a_ONE) from rfl)))
    (pss_cons (ps_for PassesOwn.never rfl (pi_list (pv 0)) (pg_name (i := 2) sc_product.nd rfl (Or.inl rfl)) (pss_cons (ps_par (i := 3) (j := 4) rfl sc_product.nd rfl rfl (by decide) rfl rfl (pa_cons (pe_callBfun cr_gcd rfl m_gcd (pa_cons (pe_ix ix_tup (pv 1) pe_int (fun _ _ => rfl)) (pa_cons (pe_ix ix_tup (pv 2) pe_int (fun _ _ => rfl)) pa_nil))) (pa_cons (pe_callBfun cr_gcd rfl m_gcd (pa_cons (pe_ix ix_tup (pv 2) pe_int (fun _ _ => rfl)) (pa_cons (pe_ix ix_tup (pv 1) pe_int (fun _ _ => rfl)) pa_nil))) pa_nil)) (by rfl))
      (pss_one (ps_set (i := 1) sc_product.nd rfl (Or.inl rfl) (pe_tup (pa_cons (pe_op op_mulW (pe_op op_fdivW (pe_ix ix_tup (pv 1) pe_int (fun _ _ => rfl)) (pv 3)) (pe_op op_fdivW (pe_ix ix_tup (pv 2) pe_int (fun _ _ => rfl)) (pv 4))) (pa_cons (pe_op op_mulW (pe_op op_fdivW (pe_ix ix_tup (pv 1) pe_int (fun _ _ => rfl)) (pv 4)) (pe_op op_fdivW (pe_ix ix_tup (pv 2) pe_int (fun _ _ => rfl)) (pv 3))) pa_nil)))))))
    (pss_one (ps_ret (pv 1))))), ?_⟩
    refine ⟨_, rfl, a, rfl, ⟨_, hs⟩, for_list (K := K) (a := a) (xs := xs) (fun i σ J => ∃ (c : Addr) (v2 v3 v4 : Option V), σ = [some (.ref a), some (.ref c), v2, v3, v4] ∧ Same H J ∧ Fr K J c (prodR (qs.take i)) ∧ Sz (200 * i + 1) (prodR (qs.take i)))
      ⟨a_ONE, _, _, _, rfl, .refl _, c_ONE _, z0⟩ (fun i σ J _ ⟨_, _, _, _, _, s, _⟩ => s.seq hs) ?_ ?_⟩
    · rintro i x σ J hx ⟨c, v2, v3, v4, rfl, s, hc, sp⟩
      obtain ⟨q, b, hq, rfl, hb⟩ := hf.at_ hx
      have hb := hb.same s
      have zq := sz q (List.mem_of_getElem? hq)
      obtain ⟨dA, dB, w1, w2, e1, e2, l1, l2⟩ := prod_step (q := q) (i := i) (n := qs.length) few (List.getElem?_eq_some_iff.mp hq).1 sp zq
      have pm := prod_bits hq
      refine ⟨_, rfl, c, fr _, 0, _, rfl, rfl, hc, at0 _, _, rfl, b, fr q, 1, _, rfl, rfl, hb, at1 q, _, _, rfl, _, rfl, b, fr q, 0, _, rfl, rfl, hb, at0 q, _, rfl, c, fr _, 1, _, rfl, rfl, hc, at1 _, _, _, rfl, _, _, rfl, ?_⟩
      refine ⟨_, rfl, c, fr _, 0, _, rfl, rfl, hc, at0 _, _, rfl, _, _, rfl, rfl, dA _, _, rfl, b, fr q, 0, _, rfl, rfl, hb, at0 q, _, rfl, _, _, rfl, rfl, dB _, _, _, rfl, rfl, w1, ?_⟩
      refine ⟨_, rfl, c, fr _, 1, _, rfl, rfl, hc, at1 _, _, rfl, _, _, rfl, rfl, dB _, _, rfl, b, fr q, 1, _, rfl, rfl, hb, at1 q, _, rfl, _, _, rfl, rfl, dA _, _, _, rfl, rfl, w2, ?_⟩
      refine ⟨(by show 2 ≤ sizeLine; decide), fun r hr => ?_⟩
      have fn := Fr.new (K := K) (H := J) (a := r) (q := prodR (qs.take i) * q)
      have ef : fr (prodR (qs.take i) * q) = [.int _, .int _] := congr (congrArg List.cons (congrArg V.int e1.symm)) (congrArg (fun z => [V.int z]) e2.symm)
      rw [ef] at fn
      refine ⟨r, _, _, _, rfl, s.trans (new_same hr), ?_, ?_⟩
      · rw [← pm]
        exact fn
      · rw [← pm]
        exact ⟨l1, l2⟩
    rintro σ J ⟨c, v2, v3, v4, rfl, s, hc, sp⟩
    rw [ln, List.take_length] at hc
    exact ⟨_, rfl, k c J s hc⟩
  · refine ⟨_, (pss_cons (ps_set (i := 1) sc_product.nd rfl (Or.inl rfl) (pe_glob (by rfl) m_ONE (show RelV (.ref a_ONE) (.ref a_ONE) from rfl)))
    (pss_cons (ps_for PassesOwn.never rfl (pi_tup (pv 0)) (pg_name (i := 2) sc_product.nd rfl (Or.inl rfl)) (pss_cons (ps_par (i := 3) (j := 4) rfl sc_product.nd rfl rfl (by decide) rfl rfl (pa_cons (pe_callBfun cr_gcd rfl m_gcd (pa_cons (pe_ix ix_tup (pv 1) pe_int (fun _ _ => rfl)) (pa_cons (pe_ix ix_tup (pv 2) pe_int (fun _ _ => rfl)) pa_nil))) (pa_cons (pe_callBfun cr_gcd rfl m_gcd (pa_cons (pe_ix ix_tup (pv 2) pe_int (fun _ _ => rfl)) (pa_cons (pe_ix ix_tup (pv 1) pe_int (fun _ _ => rfl)) pa_nil))) pa_nil)) (by rfl))
      (pss_one (ps_set (i := 1) sc_product.nd rfl (Or.inl rfl) (pe_tup (pa_cons (pe_op op_mulW (pe_op op_fdivW (pe_ix ix_tup (pv 1) pe_int (fun _ _ => rfl)) (pv 3)) (pe_op op_fdivW (pe_ix ix_tup (pv 2) pe_int (fun _ _ => rfl)) (pv 4))) (pa_cons (pe_op op_mulW (pe_op op_fdivW (pe_ix ix_tup (pv 1) pe_int (fun _ _ => rfl)) (pv 4)) (pe_op op_fdivW (pe_ix ix_tup (pv 2) pe_int (fun _ _ => rfl)) (pv 3))) pa_nil)))))))
    (pss_one (ps_ret (pv 1))))), ?_⟩
    refine ⟨_, rfl, a, rfl, ⟨_, hs⟩, for_tup (K := K) (a := a) (xs := xs) (fun i σ J => ∃ (c : Addr) (v2 v3 v4 : Option V), σ = [some (.ref a), some (.ref c), v2, v3, v4] ∧ Same H J ∧ Fr K J c (prodR (qs.take i)) ∧ Sz (200 * i + 1) (prodR (qs.take i)))
      ⟨a_ONE, _, _, _, rfl, .refl _, c_ONE _, z0⟩ (fun i σ J _ ⟨_, _, _, _, _, s, _⟩ => seqT s hs) ?_ ?_⟩
    · rintro i x σ J hx ⟨c, v2, v3, v4, rfl, s, hc, sp⟩
      obtain ⟨q, b, hq, rfl, hb⟩ := hf.at_ hx
      have hb := hb.same s
      have zq := sz q (List.mem_of_getElem? hq)
      obtain ⟨dA, dB, w1, w2, e1, e2, l1, l2⟩ := prod_step (q := q) (i := i) (n := qs.length) few (List.getElem?_eq_some_iff.mp hq).1 sp zq
      have pm := prod_bits hq
      refine ⟨_, rfl, c, fr _, 0, _, rfl, rfl, hc, at0 _, _, rfl, b, fr q, 1, _, rfl, rfl, hb, at1 q, _, _, rfl, _, rfl, b, fr q, 0, _, rfl, rfl, hb, at0 q, _, rfl, c, fr _, 1, _, rfl, rfl, hc, at1 _, _, _, rfl, _, _, rfl, ?_⟩
      refine ⟨_, rfl, c, fr _, 0, _, rfl, rfl, hc, at0 _, _, rfl, _, _, rfl, rfl, dA _, _, rfl, b, fr q, 0, _, rfl, rfl, hb, at0 q, _, rfl, _, _, rfl, rfl, dB _, _, _, rfl, rfl, w1, ?_⟩
      refine ⟨_, rfl, c, fr _, 1, _, rfl, rfl, hc, at1 _, _, rfl, _, _, rfl, rfl, dB _, _, rfl, b, fr q, 1, _, rfl, rfl, hb, at1 q, _, rfl, _, _, rfl, rfl, dA _, _, _, rfl, rfl, w2, ?_⟩
      refine ⟨(by show 2 ≤ sizeLine; decide), fun r hr => ?_⟩
      have fn := Fr.new (K := K) (H := J) (a := r) (q := prodR (qs.take i) * q)
      have ef : fr (prodR (qs.take i) * q) = [.int _, .int _] := congr (congrArg List.cons (congrArg V.int e1.symm)) (congrArg (fun z => [V.int z]) e2.symm)
      rw [ef] at fn
      refine ⟨r, _, _, _, rfl, s.trans (new_same hr), ?_, ?_⟩
      · rw [← pm]
        exact fn
      · rw [← pm]
        exact ⟨l1, l2⟩
    rintro σ J ⟨c, v2, v3, v4, rfl, s, hc, sp⟩
    rw [ln, List.take_length] at hc
    exact ⟨_, rfl, k c J s hc⟩
end
end K02

set_option Elab.async false
set_option linter.all false
set_option maxRecDepth 100000
set_option maxHeartbeats 4000000
/-! Wc2: the law's own call, for a def by its name; the head's ends. -/
namespace Wb
open PySem PySem.Spec PyProof.Rows L2

/-- the law's def, promised where no repr runs, called from outside -/
theorem lawG2 {P : Program} {w : World} {K : PySem.W.Frag} {mg mb : Str → Option Value} {CX : CXT} {k : Nat} {fa a : Addr} {x : Str} {sp : Sp} {st : Shared} {vs : List Value} {ns : List Int}
    (inK : K.In st.heap) (names : st.heap.Ns mainGlobals mg) (bns : st.heap.Ns builtinsNs mb) (boot : ∀ x : Str, x ≠ "__name__" → mb x = bootBuiltins x) (lim : st.heap.NoLimit) (nogen : st.gens = #[])
    (atA : st.heap.get? a = some { cls := .type "list", data := .seq vs.toArray }) (areInts : IntsAre vs ns) (short : ns.length ≤ sizeLine) (room : Room k callerA)
    (F : ∀ base : Heap, K.In base → base.Ns mainGlobals mg → ∃ fd : FuncData, (∀ (s : Shared) (u : Value), BindsTo s fd ⟨[u], []⟩ [(x, u)]) ∧ FnG P w K mg base CX k fa fd [x] sp)
    (want : ∀ H : Hp, Only H → SqL K H a (ns.map V.int) → sp [.ref a] H (fun v _ => v = .bl true) fun _ _ _ => False)
    (noX : ∀ H e s', CX [] H st (fun _ _ _ => False) e s' → False) :
    codeAny (model P w) callerA (.call (.ref fa) ⟨[.ref a], []⟩) (fun r s' => r = .ok (.ret (.bool true)) ∧ OldK st.heap s'.heap ∧ s'.os = st.os ∧ AllBare s'.gens) st := by
  have rel := vals_ints areInts
  have same := areInts.length
  -- what is told of any abstract heap that tracks the script at most
  suffices go : ∀ H : Hp, Only H → SqL K H a (ns.map V.int) → HOk P w H st.heap → (∀ b, H b ≠ none → b = a) → (H a ≠ none → K.lookup a = none) →
      codeAny (model P w) callerA (.call (.ref fa) ⟨[.ref a], []⟩) (fun r s' => r = .ok (.ret (.bool true)) ∧ OldK st.heap s'.heap ∧ s'.os = st.os ∧ AllBare s'.gens) st by
    rcases own : K.lookup a with _ | ob
    · -- the script is tracked, as a thing that stands still
      let frozen : HO := .frz { cls := .type "list", data := .seq vs.toArray } (.lst (ns.map V.int))
      refine go (fun b => if b = a then some frozen else none) ?_ ?_ ?_ ?_ (fun _ => own)
      · intro b
        by_cases e : b = a
        · exact Or.inr ⟨_, _, if_pos e⟩
        · exact Or.inl (if_neg e)
      · exact Or.inl (Or.inr ⟨_, if_pos rfl⟩)
      · intro b u e
        by_cases h : b = a
        · subst h
          cases (if_pos rfl).symm.trans e
          exact ⟨atA, by simpa using short, vs, _, rel, atA⟩
        · cases (if_neg h).symm.trans e
      · intro b e
        by_cases h : b = a
        · exact h
        · exact absurd (if_neg h) e
    · -- the script is one of the module's own objects
      have there := inK a ob own
      rw [atA] at there
      cases there
      refine go (fun _ => none) (fun _ => Or.inl rfl) ?_ (fun b u e => ?_) (fun b e => absurd rfl e) (fun e => absurd rfl e)
      · exact Or.inr ⟨_, vs.toArray, _, own, rfl, rfl, rfl, by rw [List.size_toArray, same]; exact short, by simpa using rel⟩
      · have e' : (none : Option HO) = some u := e
        cases e'
  intro H only seq ok just notK
  have keepB : ∀ {b : Addr} {o : Obj}, st.heap.get? b = some o → H b = none → (hidT st.heap H).get? b = some o := fun e n => hidT_get e n
  have dictFree : ∀ {b : Addr} {o : Obj} {es : Array DictEntry} {ep : Nat}, st.heap.get? b = some o → o.data = .dict es ep → H b = none := by
    intro b o es ep e d
    by_cases q : H b = none
    · exact q
    · have h := just b q
      subst h
      rw [atA] at e
      cases e
      have d' : Data.seq vs.toArray _ = Data.dict es ep := d
      cases d'
  have nsIn : ∀ {b : Addr} {m : Str → Option Value}, st.heap.Ns b m → (hidT st.heap H).Ns b m := by
    rintro b m ⟨o, es, ep, e, d, r⟩
    exact ⟨o, es, ep, keepB e (dictFree e d), d, r⟩
  have inBase : K.In (hidT st.heap H) := by
    intro b o e
    refine keepB (inK b o e) ?_
    by_cases q : H b = none
    · exact q
    · have h := just b q
      subst h
      rw [notK q] at e
      cases e
  have md : Mod K mg (hidT st.heap H) := by
    obtain ⟨mc, l1, l2⟩ := lim
    exact ⟨inBase, nsIn names, ⟨mb, nsIn bns, boot⟩, ⟨mc, nsIn l1, l2⟩⟩
  have env0 : Env0 P w K mg (hidT st.heap H) callerA [] st H :=
    ⟨rfl, md, fun b o e => of_hidT e, Nat.le_of_eq (hidT_size _ _), trivial, fun b hb => absurd (show b ∈ ([] : List Addr) from hb) (by simp), ok, .of_eq nogen⟩
  obtain ⟨fd, bind1, FF⟩ := F _ inBase (nsIn names)
  have ran := FF.go callerA [] st H ⟨[.ref a], []⟩ [.ref a] [.ref a] _ _ rfl room env0 (bind1 st (.ref a)) (.cons rfl .nil) (want H only seq)
  refine codeAny_mono ran ?_
  intro r s' h
  match r, h with
  | .error e, h => exact (noX H e s' h).elim
  | .ok (.ret u), h =>
    obtain ⟨v, H', os, bare, un, ok', rv, q⟩ := h
    have q' : v = .bl true := q
    subst q'
    obtain rfl : u = Value.bool true := rv
    refine ⟨rfl, OldK.of_keep ?_, os, bare⟩
    intro b o e
    by_cases q : H b = none
    · exact un.keep b o e q (fun z => absurd (show b ∈ ([] : List Addr) from z) (by simp)) (by simp)
    · rcases only b with z | ⟨ob, xs, z⟩
      · exact absurd z q
      · obtain ⟨e1, _⟩ := ok b _ z
        obtain ⟨e2, _⟩ := ok' b _ (un.frzs b ob _ z)
        rw [e] at e1
        cases e1
        exact e2

/-- the goal that the head leaves, from such a promise of the law's def -/
theorem walkG2 {l : PySem.W.OpenLaw} {n k : Nat} {q : Program} {loose : List Str} {XP : (Str → Option Value) → Heap → Prop} {YP : World → Heap → Prop} {d : DefRec} {K : Params → PySem.W.Frag} {CX : World → CXT} {sp : World → Sp} {x : Str}
    (h1 : l.most = some n) (h2 : n ≤ sizeLine) (h3 : d.params.defaults = []) (room : Room k callerA) (hY : ∀ (w : World) (h : Heap), YP w h → (K w.params).In h)
    (F : ∀ (w : World) (mg : Str → Option Value) (fa : Addr) (h : Heap), (K w.params).In h → h.Ns mainGlobals mg → mg d.name = some (.ref fa) →
      ∀ base : Heap, (K w.params).In base → base.Ns mainGlobals mg → ∃ fd : FuncData, (∀ (s : Shared) (u : Value), BindsTo s fd ⟨[u], []⟩ [(x, u)]) ∧ FnG l.prog w (K w.params) mg base (CX w) k fa fd [x] (sp w))
    (want : ∀ (w : World) (H : Hp) (a : Addr) (ns : List Int), ns.length ≤ n → Only H → SqL (K w.params) H a (ns.map V.int) → sp w [.ref a] H (fun v _ => v = .bl true) fun _ _ _ => False)
    (noX : ∀ (w : World) (H : Hp) (s : Shared) (e : Value) (s' : Shared), CX w [] H s (fun _ _ _ => False) e s' → False) :
    PySem.W.WalkO q loose XP YP l.row.toRowW d [] (fun f vs => PySem.call f vs) := by
  apply Att.attach_call h1 h3
  intro w s₀ s₁ mg mb fa o pm cd doc a vs ns G Y ho hd hcd hmg hobj hints hlen hg
  have inK := hY w _ Y
  have hF := F w mg fa _ inK G.T.g hmg
  exact lawG2 inK G.T.g G.T.b G.T.builtins G.T.nolimit hg hobj hints (Nat.le_trans hlen h2) room hF (fun H hO hS => want w H a ns hlen hO hS) fun H e s' => noX w H s₁ e s'
theorem FnF.fn {K : PySem.W.Frag} {nm q : Str} {st : Stmt} {f : Addr} (h : FnF K nm q st f) : ∃ (kV dc pm : Value) (an : Option Addr) (cd ct : Value), Fun K nm q st f (PySem.W.fnOf nm q (defArgs st) (defBody st) (defScope st) .none kV dc pm an cd ct) := by
  obtain ⟨oc, od, kV, dc, pm, an, cd, ct, sl, l, c, k⟩ := h
  exact ⟨kV, dc, pm, an, cd, ct, fun_mk l c k⟩
/-- what the head needs of the law -/
theorem CalG.law {P : Program} {w : World} {K : PySem.W.Frag} {mg : Str → Option Value} {base : Heap} {k : Nat} {st : Stmt} {sp : Sp} {fa : Addr} (C : CalG P w K mg base CX0 k "law" st ["script"] sp) (hfa : mg "law" = some (.ref fa))
    (hb : ∀ (kV dc pm : Value) (an : Option Addr) (cd ct : Value) (s : Shared) (u : Value), BindsTo s (PySem.W.fnOf "law" "law" (defArgs st) (defBody st) (defScope st) .none kV dc pm an cd ct) ⟨[u], []⟩ [("script", u)]) :
    ∃ fd : FuncData, (∀ (s : Shared) (u : Value), BindsTo s fd ⟨[u], []⟩ [("script", u)]) ∧ FnG P w K mg base CX0 k fa fd ["script"] sp := by
  obtain ⟨f, fd, F, m, _, _, kV, dc, pm, an, cd, ct, rfl⟩ := C
  have e := m.symm.trans hfa
  cases e
  exact ⟨_, hb kV dc pm an cd ct, F⟩
/-- the law of a script -/
def spLaw (K : PySem.W.Frag) : Sp := fun vs H Q _ => ∃ (a : Addr) (ns : List Int), vs = [.ref a] ∧ SqL K H a (ns.map V.int) ∧ ns.length ≤ 63 ∧ ∀ H', Q (.bl true) H'
theorem walk2 {l : PySem.W.OpenLaw} {q : Program} {loose : List Str} {XP : (Str → Option Value) → Heap → Prop} {YP : World → Heap → Prop} {d : DefRec} {K : Params → PySem.W.Frag} {k : Nat} (room : Room k callerA) (hn : l.most = some 63) (hdf : d.params.defaults = [])
    (hY : ∀ (w : World) (h : Heap), YP w h → (K w.params).In h)
    (F : ∀ (w : World) (mg : Str → Option Value) (fa : Addr) (h : Heap), (K w.params).In h → h.Ns mainGlobals mg → mg d.name = some (.ref fa) →
      ∀ base : Heap, (K w.params).In base → base.Ns mainGlobals mg → ∃ fd : FuncData, (∀ (s : Shared) (u : Value), BindsTo s fd ⟨[u], []⟩ [("script", u)]) ∧ FnG l.prog w (K w.params) mg base CX0 k fa fd ["script"] (spLaw (K w.params))) :
    PySem.W.WalkO q loose XP YP l.row.toRowW d [] (fun f vs => PySem.call f vs) :=
  walkG2 (n := 63) (k := k) (x := "script") (CX := fun _ => CX0) (sp := fun w => spLaw (K w.params)) hn (by decide) hdf room hY F (fun _ _ a ns hl _ hS => ⟨a, ns, rfl, hS, hl, fun _ => rfl⟩) fun _ _ _ _ _ z => z
/-- a written tuple of ints -/
theorem tup_of {K : PySem.W.Frag} {a : Addr} {od : Option Addr} {its : Array Value} {n : Nat} {sl : Array (Option Value)} {xs : List V} (l : K.lookup a = some ⟨.type "tuple", od, .seq its n, sl⟩) (hz : its.size ≤ sizeLine) (r : Vals xs its.toList) : ∀ H, SqT K H a xs :=
  fun H => .inr ⟨_, its, n, l, rfl, rfl, hz, r⟩
end Wb

set_option Elab.async false
set_option linter.all false
set_option maxRecDepth 100000
set_option maxHeartbeats 4000000
namespace K02
open PySem PySem.Spec PyProof.Rows L2 Wb Wf

section
variable {P : Program} {w : World} {K : PySem.W.Frag} {mg : Str → Option Value} {base : Heap} {C fI : Addr} {fdI : FuncData}
theorem okk_any (D : Def K mg "_law_any" s_any ["deal", "bound"]) (n : mg "int" = none) : Cal P w K mg base CX0 1 "_law_any" s_any ["deal", "bound"] spAny := by
  obtain ⟨f, fd, F, m, b, o⟩ := D
  exact ⟨f, fd, ok_any F n, m, F.kp, b, o⟩
theorem okk_of (D : Def K mg "_law_of" s_of ["deal", "some"]) (A : Cal P w K mg base CX0 1 "_law_any" s_any ["deal", "bound"] spAny) (n : mg "len" = none) : Cal P w K mg base CX0 2 "_law_of" s_of ["deal", "some"] (spOf K) := by
  obtain ⟨f, fd, F, m, b, o⟩ := D
  obtain ⟨fA, fdA, GA, mA, kA, bA, _⟩ := A
  exact ⟨f, fd, ok_of F GA mA kA bA n, m, F.kp, b, o⟩
theorem okk_source (D : Def K mg "_law_source" s_source ["script"]) (n : mg "int" = none) (n2 : mg "abs" = none) : Cal P w K mg base CX0 1 "_law_source" s_source ["script"] (spSource K) := by
  obtain ⟨f, fd, F, m, b, o⟩ := D
  exact ⟨f, fd, ok_source F n n2, m, F.kp, b, o⟩
theorem okk_fraction (D : Def K mg "fraction" s_fraction ["top", "bottom"]) (k : KitS K mg C fI fdI) (g : mg "gcd" = some (.builtin "math.gcd")) : Cal P w K mg base (L2.CX P w) 3 "fraction" s_fraction ["top", "bottom"] (spFrac C) := by
  obtain ⟨f, fd, F, m, b, o⟩ := D
  exact ⟨f, fd, ok_fraction F k g, m, F.kp, b, o⟩
theorem okk_plus (D : Def K mg "plus" s_plus ["one", "other"]) (A : Cal P w K mg base (L2.CX P w) 3 "fraction" s_fraction ["top", "bottom"] (spFrac C)) : Cal P w K mg base CX0 4 "plus" s_plus ["one", "other"] (spBinS K (· + ·)) := by
  obtain ⟨f, fd, F, m, b, o⟩ := D
  obtain ⟨fA, fdA, GA, mA, kA, bA, _⟩ := A
  exact Cal.weaken ⟨f, fd, ok_plus GA mA kA bA F, m, F.kp, b, o⟩ fun _ _ _ _ => spBinS.of
theorem okk_minus (D : Def K mg "minus" s_minus ["one", "other"]) (A : Cal P w K mg base (L2.CX P w) 3 "fraction" s_fraction ["top", "bottom"] (spFrac C)) : Cal P w K mg base CX0 4 "minus" s_minus ["one", "other"] (spBinS K (· - ·)) := by
  obtain ⟨f, fd, F, m, b, o⟩ := D
  obtain ⟨fA, fdA, GA, mA, kA, bA, _⟩ := A
  exact Cal.weaken ⟨f, fd, ok_minus GA mA kA bA F, m, F.kp, b, o⟩ fun _ _ _ _ => spBinS.of
theorem okk_times (D : Def K mg "times" s_times ["one", "other"]) (A : Cal P w K mg base (L2.CX P w) 3 "fraction" s_fraction ["top", "bottom"] (spFrac C)) : Cal P w K mg base CX0 4 "times" s_times ["one", "other"] (spBinS K (· * ·)) := by
  obtain ⟨f, fd, F, m, b, o⟩ := D
  obtain ⟨fA, fdA, GA, mA, kA, bA, _⟩ := A
  exact Cal.weaken ⟨f, fd, ok_times GA mA kA bA F, m, F.kp, b, o⟩ fun _ _ _ _ => spBinS.of
theorem okk_over (D : Def K mg "over" s_over ["one", "other"]) (A : Cal P w K mg base (L2.CX P w) 3 "fraction" s_fraction ["top", "bottom"] (spFrac C)) : Cal P w K mg base (L2.CX P w) 4 "over" s_over ["one", "other"] (spOver K C) := by
  obtain ⟨f, fd, F, m, b, o⟩ := D
  obtain ⟨fA, fdA, GA, mA, kA, bA, _⟩ := A
  exact ⟨f, fd, ok_over GA mA kA bA F, m, F.kp, b, o⟩
theorem okk_compared (D : Def K mg "compared" s_compared ["one", "other"]) (n : mg "int" = none) : Cal P w K mg base CX0 1 "compared" s_compared ["one", "other"] (spCmp K) := by
  obtain ⟨f, fd, F, m, b, o⟩ := D
  exact ⟨f, fd, ok_compared F n, m, F.kp, b, o⟩
theorem okk_signOf {Z : Addr} (D : Def K mg "sign_of" s_signOf ["one"]) (A : Cal P w K mg base CX0 1 "compared" s_compared ["one", "other"] (spCmp K)) (mZ : mg "ZERO" = some (.ref Z)) (hZ : ∀ H, SqT K H Z [.int 0, .int 1]) : Cal P w K mg base CX0 2 "sign_of" s_signOf ["one"] (spSign K) := by
  obtain ⟨f, fd, F, m, b, o⟩ := D
  obtain ⟨fA, fdA, GA, mA, kA, bA, _⟩ := A
  exact ⟨f, fd, ok_sign F GA mA kA bA mZ hZ, m, F.kp, b, o⟩
theorem okk_total (D : Def K mg "total_of" s_total ["some"]) (A : Cal P w K mg base (L2.CX P w) 3 "fraction" s_fraction ["top", "bottom"] (spFrac C)) (mL : mg "lcm" = some (.builtin "math.lcm")) (n : mg "sum" = none) : Cal P w K mg base CX0 4 "total_of" s_total ["some"] (spTotal K) := by
  obtain ⟨f, fd, F, m, b, o⟩ := D
  obtain ⟨fA, fdA, GA, mA, kA, bA, _⟩ := A
  exact ⟨f, fd, ok_total GA mA kA bA F mL n, m, F.kp, b, o⟩
theorem okk_outer (D : Def K mg "outermost" s_outer ["some", "side"]) (k : KitS K mg C fI fdI) (A : Cal P w K mg base CX0 1 "compared" s_compared ["one", "other"] (spCmp K)) (n : mg "len" = none) : Cal P w K mg base (L2.CX P w) 3 "outermost" s_outer ["some", "side"] (spOuter K C) := by
  obtain ⟨f, fd, F, m, b, o⟩ := D
  obtain ⟨fA, fdA, GA, mA, kA, bA, _⟩ := A
  exact ⟨f, fd, ok_outer F k GA mA kA bA n, m, F.kp, b, o⟩
theorem okk_least (D : Def K mg "least_of" s_least ["some"]) (A : Cal P w K mg base (L2.CX P w) 3 "outermost" s_outer ["some", "side"] (spOuter K C)) : Cal P w K mg base (L2.CX P w) 4 "least_of" s_least ["some"] (spEdge K C (-1)) := by
  obtain ⟨f, fd, F, m, b, o⟩ := D
  obtain ⟨fA, fdA, GA, mA, kA, bA, _⟩ := A
  exact ⟨f, fd, ok_least F GA mA kA bA, m, F.kp, b, o⟩
theorem okk_greatest (D : Def K mg "greatest_of" s_greatest ["some"]) (A : Cal P w K mg base (L2.CX P w) 3 "outermost" s_outer ["some", "side"] (spOuter K C)) : Cal P w K mg base (L2.CX P w) 4 "greatest_of" s_greatest ["some"] (spEdge K C 1) := by
  obtain ⟨f, fd, F, m, b, o⟩ := D
  obtain ⟨fA, fdA, GA, mA, kA, bA, _⟩ := A
  exact ⟨f, fd, ok_greatest F GA mA kA bA, m, F.kp, b, o⟩
end
theorem ini_InvalidSize {P : Program} {w : World} {K : PySem.W.Frag} {mg : Str → Option Value} {base : Heap} {C fI : Addr} {fd : FuncData} (F : Fun K "__init__" "InvalidSize.__init__" (inClass (topS 4) 0) fI fd) (T : ErrC K C) (no : PySem.W.findIn K (.ref C) "word" = some none) : FnOk P w K mg base CX0 1 fI fd ["self", "word"] (spIni C "word") := by
  refine F.ok (N := ["self", "word"]) ⟨rfl, rfl, rfl, by decide +kernel, rfl, by decide +kernel, by decide +kernel⟩ (fun vs H Q E h => ?_) (fun cdv A outer s H vs Q E hr h => ?_)
  · obtain ⟨a, v, rfl, _⟩ := h
    rfl
  · obtain ⟨a, v, rfl, ha, q⟩ := h
    refine ⟨_, pss_one (ps_ini (pv 0) (pv 1)), ?_⟩
    exact ⟨_, rfl, _, rfl, a, C, rfl, T, no, ha, q⟩
theorem ini_InvalidFraction {P : Program} {w : World} {K : PySem.W.Frag} {mg : Str → Option Value} {base : Heap} {C fI : Addr} {fd : FuncData} (F : Fun K "__init__" "InvalidFraction.__init__" (inClass (topS 3) 0) fI fd) (T : ErrC K C) (no : PySem.W.findIn K (.ref C) "at" = some none) : FnOk P w K mg base CX0 1 fI fd ["self", "at"] (spIni C "at") := by
  refine F.ok (N := ["self", "at"]) ⟨rfl, rfl, rfl, by decide +kernel, rfl, by decide +kernel, by decide +kernel⟩ (fun vs H Q E h => ?_) (fun cdv A outer s H vs Q E hr h => ?_)
  · obtain ⟨a, v, rfl, _⟩ := h
    rfl
  · obtain ⟨a, v, rfl, ha, q⟩ := h
    refine ⟨_, pss_one (ps_ini (pv 0) (pv 1)), ?_⟩
    exact ⟨_, rfl, _, rfl, a, C, rfl, T, no, ha, q⟩
end K02
namespace K02
open PySem PySem.Spec PyProof.Rows L2 Wb Wf
set_option maxHeartbeats 4000000 in
theorem all_mk {l : PySem.W.OpenLaw} {w : World} {K : PySem.W.Frag} {h : Heap} {mg : Str → Option Value} {fa C_BlankError C_InvalidSize C_InvalidFraction f_InvalidSize f_InvalidFraction g_fraction g_plus g_minus g_times g_over g_compared g_signOf g_total g_product g_least g_greatest g_outer g_source g_any g_of g_common g_low g_size g_frac g_sgn g_divided g_quotient g_pair g_oner g_undone g_edge g_edgeR g_rowR g_law a_ZERO a_ONE : Addr} {od_ZERO : Option Addr} {its_ZERO : Array Value} {n_ZERO : Nat} {sl_ZERO : Array (Option Value)} {od_ONE : Option Addr} {its_ONE : Array Value} {n_ONE : Nat} {sl_ONE : Array (Option Value)}
    (X : K.In h) (G : h.Ns mainGlobals mg) (hfa : mg "law" = some (.ref fa))
    (aC_BlankError : PySem.W.nsIn K mainGlobals "BlankError" = some (some (.ref C_BlankError)))
    (aC_InvalidSize : PySem.W.nsIn K mainGlobals "InvalidSize" = some (some (.ref C_InvalidSize)))
    (aC_InvalidFraction : PySem.W.nsIn K mainGlobals "InvalidFraction" = some (some (.ref C_InvalidFraction)))
    (hn : PySem.W.specialIn K (.builtin "object.__class__") "__get__" = some (some (.builtin "getset_descriptor.__get__")))
    (ht : PySem.W.takesIn K (.builtin "object.__class__") = some true)
    (e_BlankError : EF K C_BlankError topB "Exception.__new__")
    (e_InvalidSize : EF K C_InvalidSize (topE C_BlankError) "Exception.__new__")
    (a_InvalidSize : PySem.W.findIn K (.ref C_InvalidSize) "__init__" = some (some (.ref f_InvalidSize)))
    (t_InvalidSize : PySem.W.typeIn K (.ref f_InvalidSize) = some (.type "function"))
    (no_InvalidSize : PySem.W.findIn K (.ref C_InvalidSize) "word" = some none)
    (l_InvalidSize : FnF K "__init__" "InvalidSize.__init__" (inClass (topS 4) 0) f_InvalidSize)
    (e_InvalidFraction : EF K C_InvalidFraction (topE C_BlankError) "Exception.__new__")
    (a_InvalidFraction : PySem.W.findIn K (.ref C_InvalidFraction) "__init__" = some (some (.ref f_InvalidFraction)))
    (t_InvalidFraction : PySem.W.typeIn K (.ref f_InvalidFraction) = some (.type "function"))
    (no_InvalidFraction : PySem.W.findIn K (.ref C_InvalidFraction) "at" = some none)
    (l_InvalidFraction : FnF K "__init__" "InvalidFraction.__init__" (inClass (topS 3) 0) f_InvalidFraction)
    (z_fraction : PySem.W.nsIn K mainGlobals "fraction" = some (some (.ref g_fraction)))
    (y_fraction : FnF K "fraction" "fraction" s_fraction g_fraction)
    (z_plus : PySem.W.nsIn K mainGlobals "plus" = some (some (.ref g_plus)))
    (y_plus : FnF K "plus" "plus" s_plus g_plus)
    (z_minus : PySem.W.nsIn K mainGlobals "minus" = some (some (.ref g_minus)))
    (y_minus : FnF K "minus" "minus" s_minus g_minus)
    (z_times : PySem.W.nsIn K mainGlobals "times" = some (some (.ref g_times)))
    (y_times : FnF K "times" "times" s_times g_times)
    (z_over : PySem.W.nsIn K mainGlobals "over" = some (some (.ref g_over)))
    (y_over : FnF K "over" "over" s_over g_over)
    (z_compared : PySem.W.nsIn K mainGlobals "compared" = some (some (.ref g_compared)))
    (y_compared : FnF K "compared" "compared" s_compared g_compared)
    (z_signOf : PySem.W.nsIn K mainGlobals "sign_of" = some (some (.ref g_signOf)))
    (y_signOf : FnF K "sign_of" "sign_of" s_signOf g_signOf)
    (z_total : PySem.W.nsIn K mainGlobals "total_of" = some (some (.ref g_total)))
    (y_total : FnF K "total_of" "total_of" s_total g_total)
    (z_product : PySem.W.nsIn K mainGlobals "product_all" = some (some (.ref g_product)))
    (y_product : FnF K "product_all" "product_all" s_product g_product)
    (z_least : PySem.W.nsIn K mainGlobals "least_of" = some (some (.ref g_least)))
    (y_least : FnF K "least_of" "least_of" s_least g_least)
    (z_greatest : PySem.W.nsIn K mainGlobals "greatest_of" = some (some (.ref g_greatest)))
    (y_greatest : FnF K "greatest_of" "greatest_of" s_greatest g_greatest)
    (z_outer : PySem.W.nsIn K mainGlobals "outermost" = some (some (.ref g_outer)))
    (y_outer : FnF K "outermost" "outermost" s_outer g_outer)
    (z_source : PySem.W.nsIn K mainGlobals "_law_source" = some (some (.ref g_source)))
    (y_source : FnF K "_law_source" "_law_source" s_source g_source)
    (z_any : PySem.W.nsIn K mainGlobals "_law_any" = some (some (.ref g_any)))
    (y_any : FnF K "_law_any" "_law_any" s_any g_any)
    (z_of : PySem.W.nsIn K mainGlobals "_law_of" = some (some (.ref g_of)))
    (y_of : FnF K "_law_of" "_law_of" s_of g_of)
    (z_common : PySem.W.nsIn K mainGlobals "_law_common" = some (some (.ref g_common)))
    (y_common : FnF K "_law_common" "_law_common" s_common g_common)
    (z_low : PySem.W.nsIn K mainGlobals "_law_low" = some (some (.ref g_low)))
    (y_low : FnF K "_law_low" "_law_low" s_low g_low)
    (z_size : PySem.W.nsIn K mainGlobals "_law_size" = some (some (.ref g_size)))
    (y_size : FnF K "_law_size" "_law_size" s_size g_size)
    (z_frac : PySem.W.nsIn K mainGlobals "_law_fraction" = some (some (.ref g_frac)))
    (y_frac : FnF K "_law_fraction" "_law_fraction" s_frac g_frac)
    (z_sgn : PySem.W.nsIn K mainGlobals "_law_sign" = some (some (.ref g_sgn)))
    (y_sgn : FnF K "_law_sign" "_law_sign" s_sgn g_sgn)
    (z_divided : PySem.W.nsIn K mainGlobals "_law_divided" = some (some (.ref g_divided)))
    (y_divided : FnF K "_law_divided" "_law_divided" s_divided g_divided)
    (z_quotient : PySem.W.nsIn K mainGlobals "_law_quotient" = some (some (.ref g_quotient)))
    (y_quotient : FnF K "_law_quotient" "_law_quotient" s_quotient g_quotient)
    (z_pair : PySem.W.nsIn K mainGlobals "_law_pair_right" = some (some (.ref g_pair)))
    (y_pair : FnF K "_law_pair_right" "_law_pair_right" s_pair g_pair)
    (z_oner : PySem.W.nsIn K mainGlobals "_law_one_right" = some (some (.ref g_oner)))
    (y_oner : FnF K "_law_one_right" "_law_one_right" s_oner g_oner)
    (z_undone : PySem.W.nsIn K mainGlobals "_law_undone" = some (some (.ref g_undone)))
    (y_undone : FnF K "_law_undone" "_law_undone" s_undone g_undone)
    (z_edge : PySem.W.nsIn K mainGlobals "_law_edge" = some (some (.ref g_edge)))
    (y_edge : FnF K "_law_edge" "_law_edge" s_edge g_edge)
    (z_edgeR : PySem.W.nsIn K mainGlobals "_law_edge_right" = some (some (.ref g_edgeR)))
    (y_edgeR : FnF K "_law_edge_right" "_law_edge_right" s_edgeR g_edgeR)
    (z_rowR : PySem.W.nsIn K mainGlobals "_law_row_right" = some (some (.ref g_rowR)))
    (y_rowR : FnF K "_law_row_right" "_law_row_right" s_rowR g_rowR)
    (z_law : PySem.W.nsIn K mainGlobals "law" = some (some (.ref g_law)))
    (y_law : FnF K "law" "law" s_law g_law)
    (o_int : PySem.W.nsIn K mainGlobals "int" = some none)
    (o_abs : PySem.W.nsIn K mainGlobals "abs" = some none)
    (o_range : PySem.W.nsIn K mainGlobals "range" = some none)
    (o_isinstance : PySem.W.nsIn K mainGlobals "isinstance" = some none)
    (o_repr : PySem.W.nsIn K mainGlobals "repr" = some none)
    (o_len : PySem.W.nsIn K mainGlobals "len" = some none)
    (o_tuple : PySem.W.nsIn K mainGlobals "tuple" = some none)
    (o_list : PySem.W.nsIn K mainGlobals "list" = some none)
    (o_sum : PySem.W.nsIn K mainGlobals "sum" = some none)
    (z_gcd : PySem.W.nsIn K mainGlobals "gcd" = some (some (.builtin "math.gcd")))
    (z_lcm : PySem.W.nsIn K mainGlobals "lcm" = some (some (.builtin "math.lcm")))
    (z_ZERO : PySem.W.nsIn K mainGlobals "ZERO" = some (some (.ref a_ZERO)))
    (z_ONE : PySem.W.nsIn K mainGlobals "ONE" = some (some (.ref a_ONE)))
    (w_ZERO : K.lookup a_ZERO = some ⟨.type "tuple", od_ZERO, .seq its_ZERO n_ZERO, sl_ZERO⟩)
    (rv_ZERO : Vals [.int 0, .int 1] its_ZERO.toList)
    (qz_ZERO : its_ZERO.size ≤ sizeLine)
    (w_ONE : K.lookup a_ONE = some ⟨.type "tuple", od_ONE, .seq its_ONE n_ONE, sl_ONE⟩)
    (rv_ONE : Vals [.int 1, .int 1] its_ONE.toList)
    (qz_ONE : its_ONE.size ≤ sizeLine)
    (ne_SF : C_InvalidSize ≠ C_InvalidFraction)
    (ne_FB : C_InvalidFraction ≠ C_BlankError)
    : ∀ base : Heap, K.In base → base.Ns mainGlobals mg → ∃ fd : FuncData, (∀ (s : Shared) (v : Value), BindsTo s fd ⟨[v], []⟩ [("script", v)]) ∧ FnG l.prog w K mg base CX0 7 fa fd ["script"] (Wb.spLaw K) := by
  have T_BlankError : ErrC K C_BlankError := e_BlankError.err PySem.F.excBase_Exception PySem.F.store_Exception ⟨by decide, by decide, by decide⟩ rfl hn ht
  have T_InvalidSize : ErrC K C_InvalidSize := e_InvalidSize.err PySem.F.excBase_Exception PySem.F.store_Exception ⟨rfl, rfl, rfl⟩ rfl hn ht
  obtain ⟨_, _, _, _, _, _, F_InvalidSize⟩ := l_InvalidSize.fn
  have b_InvalidSize := F_InvalidSize.binds (ps := ["self", "word"]) fun _ _ _ _ _ _ us hl => match us, hl with | [_, _], _ => rfl
  have T_InvalidFraction : ErrC K C_InvalidFraction := e_InvalidFraction.err PySem.F.excBase_Exception PySem.F.store_Exception ⟨rfl, rfl, rfl⟩ rfl hn ht
  obtain ⟨_, _, _, _, _, _, F_InvalidFraction⟩ := l_InvalidFraction.fn
  have b_InvalidFraction := F_InvalidFraction.binds (ps := ["self", "at"]) fun _ _ _ _ _ _ us hl => match us, hl with | [_, _], _ => rfl
  have D_fraction : Def K mg "fraction" s_fraction ["top", "bottom"] := FnF.def_ X G z_fraction y_fraction (fun _ _ _ _ _ _ us hl => match us, hl with | [_, _], _ => rfl)
  have D_plus : Def K mg "plus" s_plus ["one", "other"] := FnF.def_ X G z_plus y_plus (fun _ _ _ _ _ _ us hl => match us, hl with | [_, _], _ => rfl)
  have D_minus : Def K mg "minus" s_minus ["one", "other"] := FnF.def_ X G z_minus y_minus (fun _ _ _ _ _ _ us hl => match us, hl with | [_, _], _ => rfl)
  have D_times : Def K mg "times" s_times ["one", "other"] := FnF.def_ X G z_times y_times (fun _ _ _ _ _ _ us hl => match us, hl with | [_, _], _ => rfl)
  have D_over : Def K mg "over" s_over ["one", "other"] := FnF.def_ X G z_over y_over (fun _ _ _ _ _ _ us hl => match us, hl with | [_, _], _ => rfl)
  have D_compared : Def K mg "compared" s_compared ["one", "other"] := FnF.def_ X G z_compared y_compared (fun _ _ _ _ _ _ us hl => match us, hl with | [_, _], _ => rfl)
  have D_signOf : Def K mg "sign_of" s_signOf ["one"] := FnF.def_ X G z_signOf y_signOf (fun _ _ _ _ _ _ us hl => match us, hl with | [_], _ => rfl)
  have D_total : Def K mg "total_of" s_total ["some"] := FnF.def_ X G z_total y_total (fun _ _ _ _ _ _ us hl => match us, hl with | [_], _ => rfl)
  have D_product : Def K mg "product_all" s_product ["some"] := FnF.def_ X G z_product y_product (fun _ _ _ _ _ _ us hl => match us, hl with | [_], _ => rfl)
  have D_least : Def K mg "least_of" s_least ["some"] := FnF.def_ X G z_least y_least (fun _ _ _ _ _ _ us hl => match us, hl with | [_], _ => rfl)
  have D_greatest : Def K mg "greatest_of" s_greatest ["some"] := FnF.def_ X G z_greatest y_greatest (fun _ _ _ _ _ _ us hl => match us, hl with | [_], _ => rfl)
  have D_outer : Def K mg "outermost" s_outer ["some", "side"] := FnF.def_ X G z_outer y_outer (fun _ _ _ _ _ _ us hl => match us, hl with | [_, _], _ => rfl)
  have D_source : Def K mg "_law_source" s_source ["script"] := FnF.def_ X G z_source y_source (fun _ _ _ _ _ _ us hl => match us, hl with | [_], _ => rfl)
  have D_any : Def K mg "_law_any" s_any ["deal", "bound"] := FnF.def_ X G z_any y_any (fun _ _ _ _ _ _ us hl => match us, hl with | [_, _], _ => rfl)
  have D_of : Def K mg "_law_of" s_of ["deal", "some"] := FnF.def_ X G z_of y_of (fun _ _ _ _ _ _ us hl => match us, hl with | [_, _], _ => rfl)
  have D_common : Def K mg "_law_common" s_common ["one", "other"] := FnF.def_ X G z_common y_common (fun _ _ _ _ _ _ us hl => match us, hl with | [_, _], _ => rfl)
  have D_low : Def K mg "_law_low" s_low ["top", "bottom"] := FnF.def_ X G z_low y_low (fun _ _ _ _ _ _ us hl => match us, hl with | [_, _], _ => rfl)
  have D_size : Def K mg "_law_size" s_size ["deal", "great"] := FnF.def_ X G z_size y_size (fun _ _ _ _ _ _ us hl => match us, hl with | [_, _], _ => rfl)
  have D_frac : Def K mg "_law_fraction" s_frac ["deal", "great"] := FnF.def_ X G z_frac y_frac (fun _ _ _ _ _ _ us hl => match us, hl with | [_, _], _ => rfl)
  have D_sgn : Def K mg "_law_sign" s_sgn ["number"] := FnF.def_ X G z_sgn y_sgn (fun _ _ _ _ _ _ us hl => match us, hl with | [_], _ => rfl)
  have D_divided : Def K mg "_law_divided" s_divided ["one", "other"] := FnF.def_ X G z_divided y_divided (fun _ _ _ _ _ _ us hl => match us, hl with | [_, _], _ => rfl)
  have D_quotient : Def K mg "_law_quotient" s_quotient ["one", "other"] := FnF.def_ X G z_quotient y_quotient (fun _ _ _ _ _ _ us hl => match us, hl with | [_, _], _ => rfl)
  have D_pair : Def K mg "_law_pair_right" s_pair ["one", "other"] := FnF.def_ X G z_pair y_pair (fun _ _ _ _ _ _ us hl => match us, hl with | [_, _], _ => rfl)
  have D_oner : Def K mg "_law_one_right" s_oner ["one"] := FnF.def_ X G z_oner y_oner (fun _ _ _ _ _ _ us hl => match us, hl with | [_], _ => rfl)
  have D_undone : Def K mg "_law_undone" s_undone ["one", "other", "third"] := FnF.def_ X G z_undone y_undone (fun _ _ _ _ _ _ us hl => match us, hl with | [_, _, _], _ => rfl)
  have D_edge : Def K mg "_law_edge" s_edge ["way", "some"] := FnF.def_ X G z_edge y_edge (fun _ _ _ _ _ _ us hl => match us, hl with | [_, _], _ => rfl)
  have D_edgeR : Def K mg "_law_edge_right" s_edgeR ["some", "told", "way"] := FnF.def_ X G z_edgeR y_edgeR (fun _ _ _ _ _ _ us hl => match us, hl with | [_, _, _], _ => rfl)
  have D_rowR : Def K mg "_law_row_right" s_rowR ["some", "row"] := FnF.def_ X G z_rowR y_rowR (fun _ _ _ _ _ _ us hl => match us, hl with | [_, _], _ => rfl)
  have D_law : Def K mg "law" s_law ["script"] := FnF.def_ X G z_law y_law (fun _ _ _ _ _ _ us hl => match us, hl with | [_], _ => rfl)
  have n_int := PySem.W.mg_none_of X G o_int
  have n_abs := PySem.W.mg_none_of X G o_abs
  have n_range := PySem.W.mg_none_of X G o_range
  have n_isinstance := PySem.W.mg_none_of X G o_isinstance
  have n_repr := PySem.W.mg_none_of X G o_repr
  have n_len := PySem.W.mg_none_of X G o_len
  have n_tuple := PySem.W.mg_none_of X G o_tuple
  have n_list := PySem.W.mg_none_of X G o_list
  have n_sum := PySem.W.mg_none_of X G o_sum
  have m_gcd := PySem.W.mg_of X G z_gcd
  have m_lcm := PySem.W.mg_of X G z_lcm
  have m_ZERO := PySem.W.mg_of X G z_ZERO
  have m_ONE := PySem.W.mg_of X G z_ONE
  have c_ZERO : ∀ H, SqT K H a_ZERO [.int 0, .int 1] := tup_of w_ZERO qz_ZERO rv_ZERO
  have c_ONE : ∀ H, SqT K H a_ONE [.int 1, .int 1] := tup_of w_ONE qz_ONE rv_ONE
  intro base _ _
  have Z_BlankError : ErrB K mg "BlankError" C_BlankError topB := ⟨T_BlankError, PySem.W.mg_of X G aC_BlankError, e_BlankError.chain⟩
  have Z_InvalidSize : Err l.prog w K mg base "InvalidSize" "word" C_InvalidSize (topE C_BlankError) := ⟨T_InvalidSize, PySem.W.mg_of X G aC_InvalidSize, e_InvalidSize.chain, no_InvalidSize, f_InvalidSize, _, a_InvalidSize, t_InvalidSize, ini_InvalidSize F_InvalidSize T_InvalidSize no_InvalidSize, b_InvalidSize⟩
  have Z_InvalidFraction : Err l.prog w K mg base "InvalidFraction" "at" C_InvalidFraction (topE C_BlankError) := ⟨T_InvalidFraction, PySem.W.mg_of X G aC_InvalidFraction, e_InvalidFraction.chain, no_InvalidFraction, f_InvalidFraction, _, a_InvalidFraction, t_InvalidFraction, ini_InvalidFraction F_InvalidFraction T_InvalidFraction no_InvalidFraction, b_InvalidFraction⟩
  have kit : KitS K mg C_InvalidSize f_InvalidSize _ := ⟨T_InvalidSize, PySem.W.mg_of X G aC_InvalidSize, a_InvalidSize, t_InvalidSize, no_InvalidSize, F_InvalidSize, b_InvalidSize⟩
  have C_fraction := okk_fraction (P := l.prog) (w := w) (base := base) D_fraction kit m_gcd
  have C_plus := okk_plus (P := l.prog) (w := w) (base := base) D_plus C_fraction
  have C_minus := okk_minus (P := l.prog) (w := w) (base := base) D_minus C_fraction
  have C_times := okk_times (P := l.prog) (w := w) (base := base) D_times C_fraction
  have C_over := okk_over (P := l.prog) (w := w) (base := base) D_over C_fraction
  have C_compared := okk_compared (P := l.prog) (w := w) (base := base) D_compared n_int
  have C_signOf := okk_signOf (P := l.prog) (w := w) (base := base) D_signOf C_compared m_ZERO c_ZERO
  have C_total := okk_total (P := l.prog) (w := w) (base := base) D_total C_fraction m_lcm n_sum
  have C_product := okk_product (P := l.prog) (w := w) (base := base) D_product m_gcd m_ONE c_ONE
  have C_outer := okk_outer (P := l.prog) (w := w) (base := base) D_outer kit C_compared n_len
  have C_least := okk_least (P := l.prog) (w := w) (base := base) D_least C_outer
  have C_greatest := okk_greatest (P := l.prog) (w := w) (base := base) D_greatest C_outer
  have C_source := okk_source (P := l.prog) (w := w) (base := base) D_source n_int n_abs
  have C_any := okk_any (P := l.prog) (w := w) (base := base) D_any n_int
  have C_of := okk_of (P := l.prog) (w := w) (base := base) D_of C_any n_len
  have C_common := ok_common (P := l.prog) (w := w) (base := base) D_common n_int n_abs n_range
  have C_low := ok_low (P := l.prog) (w := w) (base := base) D_low C_common n_int
  have C_size := ok_size (P := l.prog) (w := w) (base := base) D_size C_of C_any
  have C_frac := ok_frac (P := l.prog) (w := w) (base := base) D_frac C_size n_abs C_low C_of
  have C_sgn := ok_sgn (P := l.prog) (w := w) (base := base) D_sgn 
  have C_divided := ok_divided (P := l.prog) (w := w) (base := base) D_divided C_over Z_BlankError n_isinstance Z_InvalidFraction Z_InvalidSize ne_SF ne_FB
  have C_quotient := ok_quotient (P := l.prog) (w := w) (base := base) D_quotient C_low
  have C_pair := ok_pair (P := l.prog) (w := w) (base := base) D_pair n_repr C_low C_quotient C_plus C_minus C_times C_divided C_over C_sgn C_compared
  have C_oner := ok_oner (P := l.prog) (w := w) (base := base) D_oner C_signOf n_repr C_sgn
  have C_undone := ok_undone (P := l.prog) (w := w) (base := base) D_undone C_minus C_plus C_over C_times C_compared C_signOf
  have C_edge := ok_edge (P := l.prog) (w := w) (base := base) D_edge C_least C_greatest Z_BlankError n_isinstance Z_InvalidFraction Z_InvalidSize ne_SF ne_FB
  have C_edgeR := ok_edgeR (P := l.prog) (w := w) (base := base) D_edgeR n_repr
  have C_rowR := ok_rowR (P := l.prog) (w := w) (base := base) D_rowR C_total n_repr C_low C_product C_edge C_edgeR C_least C_greatest
  have C_law := ok_law (P := l.prog) (w := w) (base := base) D_law C_source n_range C_of C_frac C_pair C_oner C_undone C_any n_len n_tuple n_list C_rowR
  exact C_law.law hfa (fun _ _ _ _ _ _ s u => .of_eq rfl)
end K02
open PySem PySem.W PyProof.Rows in
set_option maxRecDepth 100000 in
set_option maxHeartbeats 0 in
theorem PySem.Challenge.cw_whyblank_k02_whole_sums_quotients_and_or_holds : PySem.Challenge.rw_whyblank_k02_whole_sums_quotients_and_or.Holds := by
  w_on; o_law; k_head; (case hw => w_witness2)
  k_fill
  refine Wb.walk2 (l := PySem.Challenge.rw_whyblank_k02_whole_sums_quotients_and_or) (k := 7) ⟨rfl, by decide, by decide⟩ rfl rfl (fun w h Y => PySem.W.kIn_of Y) ?F
  case F =>
    intro w mg fa h KX G hmg
    refine' K02.all_mk KX G hmg ?aC_BlankError ?aC_InvalidSize ?aC_InvalidFraction ?hn ?ht (Wb.EF.mk (Wb.ClsRow.mk2 ?r_BlankError) ?sa_BlankError ?ga_BlankError ?gg_BlankError ?ex_BlankError ?ty_BlankError ?hd_BlankError ?kp_BlankError ?hc_BlankError ?hm_BlankError) (Wb.EF.mk (Wb.ClsRow.mk2 ?r_InvalidSize) ?sa_InvalidSize ?ga_InvalidSize ?gg_InvalidSize ?ex_InvalidSize ?ty_InvalidSize ?hd_InvalidSize ?kp_InvalidSize ?hc_InvalidSize ?hm_InvalidSize) ?a_InvalidSize ?t_InvalidSize ?no_InvalidSize (Wb.FnF.mk2 ?li_InvalidSize ?ui_InvalidSize ?vi_InvalidSize) (Wb.EF.mk (Wb.ClsRow.mk2 ?r_InvalidFraction) ?sa_InvalidFraction ?ga_InvalidFraction ?gg_InvalidFraction ?ex_InvalidFraction ?ty_InvalidFraction ?hd_InvalidFraction ?kp_InvalidFraction ?hc_InvalidFraction ?hm_InvalidFraction) ?a_InvalidFraction ?t_InvalidFraction ?no_InvalidFraction (Wb.FnF.mk2 ?li_InvalidFraction ?ui_InvalidFraction ?vi_InvalidFraction) ?z_fraction (Wb.FnF.mk2 ?l_fraction ?u_fraction ?v_fraction) ?z_plus (Wb.FnF.mk2 ?l_plus ?u_plus ?v_plus) ?z_minus (Wb.FnF.mk2 ?l_minus ?u_minus ?v_minus) ?z_times (Wb.FnF.mk2 ?l_times ?u_times ?v_times) ?z_over (Wb.FnF.mk2 ?l_over ?u_over ?v_over) ?z_compared (Wb.FnF.mk2 ?l_compared ?u_compared ?v_compared) ?z_signOf (Wb.FnF.mk2 ?l_signOf ?u_signOf ?v_signOf) ?z_total (Wb.FnF.mk2 ?l_total ?u_total ?v_total) ?z_product (Wb.FnF.mk2 ?l_product ?u_product ?v_product) ?z_least (Wb.FnF.mk2 ?l_least ?u_least ?v_least) ?z_greatest (Wb.FnF.mk2 ?l_greatest ?u_greatest ?v_greatest) ?z_outer (Wb.FnF.mk2 ?l_outer ?u_outer ?v_outer) ?z_source (Wb.FnF.mk2 ?l_source ?u_source ?v_source) ?z_any (Wb.FnF.mk2 ?l_any ?u_any ?v_any) ?z_of (Wb.FnF.mk2 ?l_of ?u_of ?v_of) ?z_common (Wb.FnF.mk2 ?l_common ?u_common ?v_common) ?z_low (Wb.FnF.mk2 ?l_low ?u_low ?v_low) ?z_size (Wb.FnF.mk2 ?l_size ?u_size ?v_size) ?z_frac (Wb.FnF.mk2 ?l_frac ?u_frac ?v_frac) ?z_sgn (Wb.FnF.mk2 ?l_sgn ?u_sgn ?v_sgn) ?z_divided (Wb.FnF.mk2 ?l_divided ?u_divided ?v_divided) ?z_quotient (Wb.FnF.mk2 ?l_quotient ?u_quotient ?v_quotient) ?z_pair (Wb.FnF.mk2 ?l_pair ?u_pair ?v_pair) ?z_oner (Wb.FnF.mk2 ?l_oner ?u_oner ?v_oner) ?z_undone (Wb.FnF.mk2 ?l_undone ?u_undone ?v_undone) ?z_edge (Wb.FnF.mk2 ?l_edge ?u_edge ?v_edge) ?z_edgeR (Wb.FnF.mk2 ?l_edgeR ?u_edgeR ?v_edgeR) ?z_rowR (Wb.FnF.mk2 ?l_rowR ?u_rowR ?v_rowR) ?z_law (Wb.FnF.mk2 ?l_law ?u_law ?v_law) ?o_int ?o_abs ?o_range ?o_isinstance ?o_repr ?o_len ?o_tuple ?o_list ?o_sum ?z_gcd ?z_lcm ?z_ZERO ?z_ONE ?w_ZERO ?rv_ZERO ?qz_ZERO ?w_ONE ?rv_ONE ?qz_ONE ?ne_SF ?ne_FB
    (case aC_BlankError => k_is)
    (case aC_InvalidSize => k_is)
    (case aC_InvalidFraction => k_is)
    (case hn => k_is)
    (case ht => k_is)
    (case r_BlankError => k_is)
    (case sa_BlankError => k_is)
    (case ga_BlankError => k_is)
    (case gg_BlankError => k_is)
    (case ex_BlankError => k_is)
    (case ty_BlankError => k_is)
    (case hd_BlankError => k_is)
    (case kp_BlankError => k_is)
    (case hc_BlankError => k_is)
    (case hm_BlankError => k_is)
    (case r_InvalidSize => k_is)
    (case sa_InvalidSize => k_is)
    (case ga_InvalidSize => k_is)
    (case gg_InvalidSize => k_is)
    (case ex_InvalidSize => k_is)
    (case ty_InvalidSize => k_is)
    (case hd_InvalidSize => k_is)
    (case kp_InvalidSize => k_is)
    (case hc_InvalidSize => k_is)
    (case hm_InvalidSize => k_is)
    (case a_InvalidSize => k_is)
    (case t_InvalidSize => k_is)
    (case no_InvalidSize => k_is)
    (case li_InvalidSize => k_is)
    (case ui_InvalidSize => k_is)
    (case vi_InvalidSize => k_is)
    (case r_InvalidFraction => k_is)
    (case sa_InvalidFraction => k_is)
    (case ga_InvalidFraction => k_is)
    (case gg_InvalidFraction => k_is)
    (case ex_InvalidFraction => k_is)
    (case ty_InvalidFraction => k_is)
    (case hd_InvalidFraction => k_is)
    (case kp_InvalidFraction => k_is)
    (case hc_InvalidFraction => k_is)
    (case hm_InvalidFraction => k_is)
    (case a_InvalidFraction => k_is)
    (case t_InvalidFraction => k_is)
    (case no_InvalidFraction => k_is)
    (case li_InvalidFraction => k_is)
    (case ui_InvalidFraction => k_is)
    (case vi_InvalidFraction => k_is)
    (case z_fraction => k_is)
    (case l_fraction => k_is)
    (case u_fraction => k_is)
    (case v_fraction => k_is)
    (case z_plus => k_is)
    (case l_plus => k_is)
    (case u_plus => k_is)
    (case v_plus => k_is)
    (case z_minus => k_is)
    (case l_minus => k_is)
    (case u_minus => k_is)
    (case v_minus => k_is)
    (case z_times => k_is)
    (case l_times => k_is)
    (case u_times => k_is)
    (case v_times => k_is)
    (case z_over => k_is)
    (case l_over => k_is)
    (case u_over => k_is)
    (case v_over => k_is)
    (case z_compared => k_is)
    (case l_compared => k_is)
    (case u_compared => k_is)
    (case v_compared => k_is)
    (case z_signOf => k_is)
    (case l_signOf => k_is)
    (case u_signOf => k_is)
    (case v_signOf => k_is)
    (case z_total => k_is)
    (case l_total => k_is)
    (case u_total => k_is)
    (case v_total => k_is)
    (case z_product => k_is)
    (case l_product => k_is)
    (case u_product => k_is)
    (case v_product => k_is)
    (case z_least => k_is)
    (case l_least => k_is)
    (case u_least => k_is)
    (case v_least => k_is)
    (case z_greatest => k_is)
    (case l_greatest => k_is)
    (case u_greatest => k_is)
    (case v_greatest => k_is)
    (case z_outer => k_is)
    (case l_outer => k_is)
    (case u_outer => k_is)
    (case v_outer => k_is)
    (case z_source => k_is)
    (case l_source => k_is)
    (case u_source => k_is)
    (case v_source => k_is)
    (case z_any => k_is)
    (case l_any => k_is)
    (case u_any => k_is)
    (case v_any => k_is)
    (case z_of => k_is)
    (case l_of => k_is)
    (case u_of => k_is)
    (case v_of => k_is)
    (case z_common => k_is)
    (case l_common => k_is)
    (case u_common => k_is)
    (case v_common => k_is)
    (case z_low => k_is)
    (case l_low => k_is)
    (case u_low => k_is)
    (case v_low => k_is)
    (case z_size => k_is)
    (case l_size => k_is)
    (case u_size => k_is)
    (case v_size => k_is)
    (case z_frac => k_is)
    (case l_frac => k_is)
    (case u_frac => k_is)
    (case v_frac => k_is)
    (case z_sgn => k_is)
    (case l_sgn => k_is)
    (case u_sgn => k_is)
    (case v_sgn => k_is)
    (case z_divided => k_is)
    (case l_divided => k_is)
    (case u_divided => k_is)
    (case v_divided => k_is)
    (case z_quotient => k_is)
    (case l_quotient => k_is)
    (case u_quotient => k_is)
    (case v_quotient => k_is)
    (case z_pair => k_is)
    (case l_pair => k_is)
    (case u_pair => k_is)
    (case v_pair => k_is)
    (case z_oner => k_is)
    (case l_oner => k_is)
    (case u_oner => k_is)
    (case v_oner => k_is)
    (case z_undone => k_is)
    (case l_undone => k_is)
    (case u_undone => k_is)
    (case v_undone => k_is)
    (case z_edge => k_is)
    (case l_edge => k_is)
    (case u_edge => k_is)
    (case v_edge => k_is)
    (case z_edgeR => k_is)
    (case l_edgeR => k_is)
    (case u_edgeR => k_is)
    (case v_edgeR => k_is)
    (case z_rowR => k_is)
    (case l_rowR => k_is)
    (case u_rowR => k_is)
    (case v_rowR => k_is)
    (case z_law => k_is)
    (case l_law => k_is)
    (case u_law => k_is)
    (case v_law => k_is)
    (case o_int => k_is)
    (case o_abs => k_is)
    (case o_range => k_is)
    (case o_isinstance => k_is)
    (case o_repr => k_is)
    (case o_len => k_is)
    (case o_tuple => k_is)
    (case o_list => k_is)
    (case o_sum => k_is)
    (case z_gcd => k_is)
    (case z_lcm => k_is)
    (case z_ZERO => k_is)
    (case z_ONE => k_is)
    (case w_ZERO => k_is)
    (case rv_ZERO => exact (.cons ⟨_, rfl⟩ (.cons ⟨_, rfl⟩ .nil)))
    (case qz_ZERO => decide)
    (case w_ONE => k_is)
    (case rv_ONE => exact (.cons ⟨_, rfl⟩ (.cons ⟨_, rfl⟩ .nil)))
    (case qz_ONE => decide)
    (case ne_SF => decide)
    (case ne_FB => decide)
