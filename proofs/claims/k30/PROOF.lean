import PyProof.Rows.All
import Wide.All
import OpenK.AllK
import Wide.FinOn
import HandS.ForMost
import HandS.ForExc
import HandS.Wide
import HandS.Ends
import HandS.ExcInit
import KE.KExcIs
import KE.KExcInit
import HandS.IsInst
import HandS.TryMany
import HandS.Style
import PyProof.ReprLen
import PyProof.ReprText
import HandS.Gcd
import HandS.WideMore
import HandS.WideBits
import PyProof.ReprBulk
import PyProof.FitsInt
import HandS.Deep
import HandS.TupAny
import HandS.Walk
import KE.SortData
import PyProof.P3In
import PyProof.StrOps2
import PyProof.Rows.SeqMore
import HandS.Conv
import HandS.Zip
import KE.GoesEnum
import PyProof.P3Eq
import HandS.StrMore
import PySem.Challenge.RW_whyblank_k30_any_values_as_letters_and_t
import PyProof.ListStr
import HandS.OwnEq
import HandS.DictComp
import HandS.More
import HandS.TupLe
import HandS.MakeKwOnly
import PyProof.CallStr
import HandS.RaiseMore
set_option Elab.async false
set_option linter.all false
set_option maxRecDepth 100000
set_option maxHeartbeats 4000000
/-! Wb0: repr of data, and calls whose surroundings run no repr (guards empty). -/
namespace Wb
open PySem PySem.Spec PyProof.Rows L2

/-! ### repr over data -/
def rShow (K : PySem.W.Frag) : List V → Hp → VK → Prop := fun xs H Q =>
  ∃ (x : V) (d : PyData), xs = [x] ∧ Dp K H x d ∧ d.showable = true ∧ d.hasDict = false ∧ d.depth ≤ 60 ∧ d.shown.length ≤ sizeLine ∧ Q (.str d.shown) H
section
variable {X : Cx}
theorem call_show (hg : X.A.guards = some []) (hu : X.A.units + 64 < cLine) : CallR X (.builtin "repr") (rShow X.K) := by
  intro pins s σ H xs us Q I rr hh
  obtain ⟨x, d, rfl, hd, hs, hn, hdep, hl, hq⟩ := hh
  cases rr with
  | cons r1 r2 =>
  cases r2
  rename_i u
  obtain ⟨as, rd⟩ := Dp.reads I d x u hd r1
  have done : ∀ (h' : Heap) (t tk : Nat), (∀ b o, s.heap.get? b = some o → h'.get? b = some o) → EP X pins σ Q (.str d.shown t) { s with heap := h', toks := tk } :=
    fun h' t tk kp => ⟨.str d.shown, H, I.kept kp, ⟨t, rfl⟩, hq⟩
  cases hd with
  | non =>
    obtain rfl : u = Value.none := r1
    simp only [PyData.shown] at done
    exact PySem.P.repr_of_none (done _ _ _ fun _ _ e => e)
  | bl b =>
    obtain rfl : u = Value.bool b := r1
    simp only [PyData.shown] at done
    exact PySem.P.repr_of_bool (done _ _ _ fun _ _ e => e)
  | int i =>
    obtain ⟨t, rfl⟩ := r1
    simp only [PyData.shown] at done
    exact PySem.P.repr_of_int (by simpa [PyData.showable] using hs) (done _ _ _ fun _ _ e => e)
  | str z =>
    obtain ⟨t, rfl⟩ := r1
    simp only [PyData.shown] at done
    exact PySem.P.repr_of_str (done _ _ _ fun _ _ e => e) (by simpa only [PyData.shown] using hl)
  | lst h1 h2 =>
    cases r1
    exact repr_of_reads' rd hs (PyData.noDict_hsm hn) hg (by omega) (fun _ _ e => e) (fun h' t tk kp => done h' t tk kp) hl
  | tup h1 h2 =>
    cases r1
    exact repr_of_reads' rd hs (PyData.noDict_hsm hn) hg (by omega) (fun _ _ e => e) (fun h' t tk kp => done h' t tk kp) hl
end

/-! ### a def that is called where no repr runs -/
structure FnG (P : Program) (w : World) (K : PySem.W.Frag) (mg : Str → Option Value) (base : Heap) (CX : CXT) (k : Nat) (f : Addr) (fd : FuncData) (ps : List Str) (sp : Sp) : Prop where
  arity : ∀ vs H Q E, sp vs H Q E → vs.length = ps.length
  go : ∀ (A : Around) (outer : List Env) (s : Shared) (H : Hp) (args : Args) (us : List Value) (vs : List V) (Q : VK) (E : XK),
    A.guards = some [] → Room k A → Env0 P w K mg base A outer s H → BindsTo s fd args (ps.zip us) → Vals vs us → sp vs H Q E →
    codeAny (model P w) A (.call (.ref f) args) (CR CX outer P w H s Q E) s

theorem FnG.of {P w K mg base CX k f fd ps sp} (F : FnOk P w K mg base CX k f fd ps sp) : FnG P w K mg base CX k f fd ps sp :=
  ⟨F.len, fun A outer s H args us vs Q E _ => F.run A outer s H args us vs Q E⟩

section
variable {P : Program} {w : World} {K : PySem.W.Frag} {mg : Str → Option Value} {base : Heap}
/-- the body of such a def, with the surroundings' guards told -/
theorem okG {CX : CXT} {x qual : Str} {st : Stmt} {f : Addr} {fd : FuncData} {N ps : List Str} {k : Nat} {sp : Sp} (F : Fun K x qual st f fd) (S : FnScope N ps (defScope st)) (ar : ∀ vs H Q E, sp vs H Q E → vs.length = ps.length)
    (body : ∀ (cdv : Value) (A : Around) (outer : List Env) (s : Shared) (H : Hp) (vs : List V) (Q : VK) (E : XK),
      (A.deeper (envOfC qual (defScope st) s.heap.objs.size f cdv)).guards = some [] → Room k (A.deeper (envOfC qual (defScope st) s.heap.objs.size f cdv)) → sp vs H Q E →
      ∃ t, PSs (cxOf CX P w K mg base N qual (defScope st) f cdv A outer s H E) (defBody st) t ∧ t { nx := fun _ H' => Q .non H', rt := Q } (start N vs) H) :
    FnG P w K mg base CX (k + 1) f fd ps sp := by
  obtain ⟨a1, a2, a3, a4, a5, a6, cdv, a8, a9, rfl, found, coded⟩ := F.ex
  refine ⟨ar, ?_⟩
  intro A outer s H args us vs Q E gd room env0 bnd rel want
  have many := ar _ _ _ _ want
  have inS : K.In s.heap := env0.mod.kin.keeps fun b o e => (env0.bs b o e).1
  have noLim : s.heap.NoLimit := env0.mod.nolimit.keeps fun b o e => (env0.bs b o e).1
  refine codeAny_call_function room.depth (inS _ _ found) rfl S.co S.gen rfl (PySem.W.codeRec_of inS coded) (bnd _ _ _ _ ?_)
  have kinds : ∀ y ∈ ps.zip us, (defScope st).names.lookup y.1 = some .local ∨
      ((defScope st).names.lookup y.1 = some .cell ∧ ((cellsFrom (s.heap.objs.size + 1) (defScope st).names []).lookup y.1).isSome = true) := by
    rintro ⟨n, v⟩ mem
    have hp := S.par n (List.of_mem_zip mem).1
    rcases hp with hp | hp
    · exact Or.inl hp
    · exact Or.inr ⟨hp, PySem.W.cellsFrom_some _ _ _ (Or.inl hp)⟩
  refine wpAny_newFunctionEnv_cells S.kind kinds ?_
  intro env isEnv s1 inCall
  subst isEnv
  refine ⟨noLim.keeps inCall.toInCall.keep, codeAny_func ?_⟩
  have gd2 : (A.deeper (envOfC qual (defScope st) s.heap.objs.size f cdv)).guards = some [] := gd
  obtain ⟨t, derived, holds⟩ := body cdv A outer s H vs Q E gd2 (room.deeper _) want
  have inv := inv_start (CX := CX) (E := E) (qual := qual) (cd := cdv) (f := f) S room.hd env0 many rel inCall
  refine wpAny_mono (derived.run [] s1 (start N vs) H _ inv holds) ?_ (fun _ _ z => z)
  intro fl s' got
  cases fl with
  | ret u =>
    obtain ⟨v, σ', H', J, rv, q⟩ := got
    exact ⟨v, H', J.os, J.bare, J.base, J.hok, rv, q⟩
  | next =>
    obtain ⟨σ', H', J, q⟩ := got
    exact ⟨V.non, H', J.os, J.bare, J.base, J.hok, rfl, q⟩
  | brk => obtain ⟨_, _, _, q⟩ := got; exact q.elim
  | cont => obtain ⟨_, _, _, q⟩ := got; exact q.elim
end

/-! ### calling it -/
section
variable {X : Cx} {CX : CXT} {k : Nat} {f : Addr} {fd : FuncData} {ps : List Str} {sp : Sp} {dvs : List V} {ds : List Value} {E : XK} {x : Str} {p pos : Pos} {e : Expr} {es : List Expr} {t : TA}
theorem runG {pins : List (Addr × Obj)} {σ : L2.St} {H : Hp} {s : Shared} {Q : VK} {us : List Value} {vs : List V} (F : FnG X.prog X.w X.K X.mg X.base CX k f fd ps sp) (gd : X.A.guards = some []) (hr : Room k X.A) (hb : Binds X.K fd ps ds) (hd : Vals dvs ds)
    (hx : Passes CX X E) (I : Inv X pins σ H s) (r : Vals vs us) (h : sp (vs ++ dvs) H Q E) : wpAny (model X.prog X.w) X.A (call (.ref f) us) (EP X pins σ Q) X.xe s := by
  have r2 := r.append hd
  have many : (us ++ ds).length = ps.length := r2.length.symm.trans (F.arity _ _ _ _ h)
  apply wpAny_call
  refine codeAny_mono (F.go X.A X.stack s H ⟨us, []⟩ _ _ Q E gd hr I.env0 (hb s us I.kIn many) r2 h) ?_
  intro res s' got
  match res, got with
  | .error er, got => exact hx pins σ H s er s' I got
  | .ok (.ret u), got => exact I.after got
theorem pe_callG (F : FnG X.prog X.w X.K X.mg X.base CX k f fd ps sp) (gd : X.A.guards = some []) (hr : Room k X.A) (hg : Gl X x) (hm : X.mg x = some (.ref f)) (hk : PySem.W.keepIn X.K (.ref f) = true) (hb : Binds X.K fd ps ds) (hd : Vals dvs ds)
    (hx : Passes CX X E) (ha : PA X (e :: es) t) (hdb : (x == ("__debug__" : Str)) = false := by decide) (he : starEach (e :: es) X.env = (false, eval e X.env) :: starEach es X.env := by rfl)
    (hpl : (backTo pos (starEach es X.env)).any (·.1) = false := by rfl) : PE X (.Call (.Name x p) (e :: es) [] pos) (tCall sp dvs E t) := by
  constructor
  intro pins s σ H Q I h
  apply wpAny_Call_Name_kw
  apply ld_glob I hg hm _ hdb
  refine PySem.W.callWith_K (h₀ := X.base) I.ok.mod.kin hk (thn (ha.run pos pins s σ H _ I h) ?_) he hpl
  rintro us s1 ⟨vs, H1, I1, r, q⟩
  exact ⟨I1.kIn, runG F gd hr hb hd hx I1 r q⟩
end
end Wb

set_option Elab.async false
set_option linter.all false
set_option maxRecDepth 100000
set_option maxHeartbeats 4000000
/-! Wb1: the law's own call, guards told. -/
namespace Wb
open PySem PySem.Spec PyProof.Rows L2

/-- the law's def, promised where no repr runs, called from outside -/
theorem lawG {P : Program} {w : World} {K : PySem.W.Frag} {mg mb : Str → Option Value} {CX : CXT} {k : Nat} {fa a : Addr} {fd : FuncData} {x : Str} {sp : Sp} {st : Shared} {vs : List Value} {ns : List Int}
    (inK : K.In st.heap) (names : st.heap.Ns mainGlobals mg) (bns : st.heap.Ns builtinsNs mb) (boot : ∀ x : Str, x ≠ "__name__" → mb x = bootBuiltins x) (lim : st.heap.NoLimit) (nogen : st.gens = #[])
    (atA : st.heap.get? a = some { cls := .type "list", data := .seq vs.toArray }) (areInts : IntsAre vs ns) (short : ns.length ≤ sizeLine) (room : Room k callerA)
    (F : ∀ base : Heap, K.In base → base.Ns mainGlobals mg → FnG P w K mg base CX k fa fd [x] sp) (bind1 : ∀ (s : Shared) (u : Value), BindsTo s fd ⟨[u], []⟩ [(x, u)])
    (want : ∀ H : Hp, Only H → SqL K H a (ns.map V.int) → sp [.ref a] H (fun v _ => v = .bl true) fun _ _ _ => False)
    (noX : ∀ H e s', CX [] H st (fun _ _ _ => False) e s' → False) :
    codeAny (model P w) callerA (.call (.ref fa) ⟨[.ref a], []⟩) (fun r s' => r = .ok (.ret (.bool true)) ∧ OldK st.heap s'.heap ∧ s'.os = st.os ∧ AllBare s'.gens) st := by
  have rel := vals_ints areInts
  have same := areInts.length
  -- what is told of any abstract heap that tracks the script at most
  suffices go : ∀ H : Hp, Only H → SqL K H a (ns.map V.int) → HOk P w H st.heap → (∀ b, H b ≠ none → b = a) → (H a ≠ none → K.lookup a = none) →
      codeAny (model P w) callerA (.call (.ref fa) ⟨[.ref a], []⟩) (fun r s' => r = .ok (.ret (.bool true)) ∧ OldK st.heap s'.heap ∧ s'.os = st.os ∧ AllBare s'.gens) st by
    rcases own : K.lookup a with _ | ob
    · -- the script is tracked, as a thing that stands still
      let frozen : HO := .frz { cls := .type "list", data := .seq vs.toArray } (.lst (ns.map V.int))
      refine go (fun b => if b = a then some frozen else none) ?_ ?_ ?_ ?_ (fun _ => own)
      · intro b
        by_cases e : b = a
        · exact Or.inr ⟨_, _, if_pos e⟩
        · exact Or.inl (if_neg e)
      · exact Or.inl (Or.inr ⟨_, if_pos rfl⟩)
      · intro b u e
        by_cases h : b = a
        · subst h
          cases (if_pos rfl).symm.trans e
          exact ⟨atA, by simpa using short, vs, _, rel, atA⟩
        · cases (if_neg h).symm.trans e
      · intro b e
        by_cases h : b = a
        · exact h
        · exact absurd (if_neg h) e
    · -- the script is one of the module's own objects
      have there := inK a ob own
      rw [atA] at there
      cases there
      refine go (fun _ => none) (fun _ => Or.inl rfl) ?_ (fun b u e => ?_) (fun b e => absurd rfl e) (fun e => absurd rfl e)
      · exact Or.inr ⟨_, vs.toArray, _, own, rfl, rfl, rfl, by rw [List.size_toArray, same]; exact short, by simpa using rel⟩
      · have e' : (none : Option HO) = some u := e
        cases e'
  intro H only seq ok just notK
  have keepB : ∀ {b : Addr} {o : Obj}, st.heap.get? b = some o → H b = none → (hidT st.heap H).get? b = some o := fun e n => hidT_get e n
  have dictFree : ∀ {b : Addr} {o : Obj} {es : Array DictEntry} {ep : Nat}, st.heap.get? b = some o → o.data = .dict es ep → H b = none := by
    intro b o es ep e d
    by_cases q : H b = none
    · exact q
    · have h := just b q
      subst h
      rw [atA] at e
      cases e
      have d' : Data.seq vs.toArray _ = Data.dict es ep := d
      cases d'
  have nsIn : ∀ {b : Addr} {m : Str → Option Value}, st.heap.Ns b m → (hidT st.heap H).Ns b m := by
    rintro b m ⟨o, es, ep, e, d, r⟩
    exact ⟨o, es, ep, keepB e (dictFree e d), d, r⟩
  have inBase : K.In (hidT st.heap H) := by
    intro b o e
    refine keepB (inK b o e) ?_
    by_cases q : H b = none
    · exact q
    · have h := just b q
      subst h
      rw [notK q] at e
      cases e
  have md : Mod K mg (hidT st.heap H) := by
    obtain ⟨mc, l1, l2⟩ := lim
    exact ⟨inBase, nsIn names, ⟨mb, nsIn bns, boot⟩, ⟨mc, nsIn l1, l2⟩⟩
  have env0 : Env0 P w K mg (hidT st.heap H) callerA [] st H :=
    ⟨rfl, md, fun b o e => of_hidT e, Nat.le_of_eq (hidT_size _ _), trivial, fun b hb => absurd (show b ∈ ([] : List Addr) from hb) (by simp), ok, .of_eq nogen⟩
  have ran := (F _ inBase (nsIn names)).go callerA [] st H ⟨[.ref a], []⟩ [.ref a] [.ref a] _ _ rfl room env0 (bind1 st (.ref a)) (.cons rfl .nil) (want H only seq)
  refine codeAny_mono ran ?_
  intro r s' h
  match r, h with
  | .error e, h => exact (noX H e s' h).elim
  | .ok (.ret u), h =>
    obtain ⟨v, H', os, bare, un, ok', rv, q⟩ := h
    have q' : v = .bl true := q
    subst q'
    obtain rfl : u = Value.bool true := rv
    refine ⟨rfl, OldK.of_keep ?_, os, bare⟩
    intro b o e
    by_cases q : H b = none
    · exact un.keep b o e q (fun z => absurd (show b ∈ ([] : List Addr) from z) (by simp)) (by simp)
    · rcases only b with z | ⟨ob, xs, z⟩
      · exact absurd z q
      · obtain ⟨e1, _⟩ := ok b _ z
        obtain ⟨e2, _⟩ := ok' b _ (un.frzs b ob _ z)
        rw [e] at e1
        cases e1
        exact e2

/-- the goal that the head leaves, from such a promise of the law's def -/
theorem walkG {l : PySem.W.OpenLaw} {n k : Nat} {q : Program} {loose : List Str} {XP : (Str → Option Value) → Heap → Prop} {YP : World → Heap → Prop} {d : DefRec} {K : Params → PySem.W.Frag} {CX : World → CXT} {sp : World → Sp} {x : Str}
    (h1 : l.most = some n) (h2 : n ≤ sizeLine) (h3 : d.params.defaults = []) (room : Room k callerA) (hY : ∀ (w : World) (h : Heap), YP w h → (K w.params).In h)
    (F : ∀ (w : World) (mg : Str → Option Value) (fa : Addr) (h : Heap), (K w.params).In h → h.Ns mainGlobals mg → mg d.name = some (.ref fa) →
      ∃ fd : FuncData, (∀ (s : Shared) (u : Value), BindsTo s fd ⟨[u], []⟩ [(x, u)]) ∧
        ∀ base : Heap, (K w.params).In base → base.Ns mainGlobals mg → FnG l.prog w (K w.params) mg base (CX w) k fa fd [x] (sp w))
    (want : ∀ (w : World) (H : Hp) (a : Addr) (ns : List Int), ns.length ≤ n → Only H → SqL (K w.params) H a (ns.map V.int) → sp w [.ref a] H (fun v _ => v = .bl true) fun _ _ _ => False)
    (noX : ∀ (w : World) (H : Hp) (s : Shared) (e : Value) (s' : Shared), CX w [] H s (fun _ _ _ => False) e s' → False) :
    PySem.W.WalkO q loose XP YP l.row.toRowW d [] (fun f vs => PySem.call f vs) := by
  apply Att.attach_call h1 h3
  intro w s₀ s₁ mg mb fa o pm cd doc a vs ns G Y ho hd hcd hmg hobj hints hlen hg
  have inK := hY w _ Y
  obtain ⟨fd, hb, hF⟩ := F w mg fa _ inK G.T.g hmg
  exact lawG inK G.T.g G.T.b G.T.builtins G.T.nolimit hg hobj hints (Nat.le_trans hlen h2) room hF hb (fun H hO hS => want w H a ns hlen hO hS) fun H e s' => noX w H s₁ e s'
end Wb

set_option Elab.async false
set_option linter.all false
set_option maxRecDepth 100000
set_option maxHeartbeats 4000000
/-! Wb2: own exceptions as values: made (by position and by name), their field read, isinstance. -/
namespace PySem
namespace WbE
open PySem.W PySem.Calls PyProof.Rows
section
variable {prog : Program} {w : World} {M : Model} {A : Around} {E : Value → Shared → Prop} {R : Result → Shared → Prop} {h : Heap} {g : Array GenState} {d : Drawn} {t : Nat} {os : OsState}
variable {nm q : Str} {C N : Addr} {bs bm bmB : List Value} {hdct : Bool} {sn : List Str} {sub : List Value} {ab : Bool} {col : Option Bool} {dd : Option Addr} {k0 k1 k2 k3 k5 : Option Value} {B newId initId : String}
variable {rest : List Value} {kw : List (Str × Value)}

/-- what is asked of the class's chain: the built-in base is in it, the two bases with members of their own are not -/
structure Chain (bm : List Value) (B : String) : Prop where
  base : bm.contains (.type B) = true
  noA : bm.contains (.type "AttributeError") = false
  noN : bm.contains (.type "NameError") = false

theorem checkNew (F : ExcBaseFacts B newId initId bmB) (ch : Chain bm B) {Q : Unit → Shared → Prop} (atC : h.get? C = some (excClassObj nm q C N bs bm hdct sn sub ab col dd k0 k1 k2 k3 k5 newId))
    (hq : Q () ⟨h, g, d, t, os⟩) : wpAny M A (checkBuiltinCall newId ⟨.ref C :: rest, kw⟩) Q E ⟨h, g, d, t, os⟩ := by
  have inB : (Value.ref C :: bm).contains (.type B) = true := by
    rw [List.contains_cons, ch.base, Bool.or_true]
  have star := F.noStar
  simp only [checkBuiltinCall, F.newKind, F.newSplit, F.newRow]
  repeat (first
    | refine wpAny_loadPart_at atC ?_
    | (refine wpAny_isSubtype_exc atC ?_; rw [inB])
    | refine wpAny_staticBase_exc atC ?_
    | refine wpAny_madeBy_exc atC ?_
    | simp only [bne_self_eq_false, Bool.false_eq_true, if_false]
    | wp_step)
  exact hq

theorem runNew (F : ExcBaseFacts B newId initId bmB) (ch : Chain bm B) (atC : h.get? C = some (excClassObj nm q C N bs bm hdct sn sub ab col dd k0 k1 k2 k3 k5 newId)) (short : rest.length ≤ sizeLine)
    (hq : R (.ok (.ret (.ref (h.objs.size + 1)))) ⟨(h.push (W.kdv_tup rest)).push (HandSPX.excO C h.objs.size), g, d, t, os⟩) :
    codeAny (model prog w) A (.builtin newId ⟨.ref C :: rest, kw⟩) R ⟨h, g, d, t, os⟩ := by
  have ends := F.ends
  have inB : (Value.ref C :: bm).contains (.type B) = true := by
    rw [List.contains_cons, ch.base, Bool.or_true]
  have outA : (Value.ref C :: bm).contains (.type "AttributeError") = false := by
    rw [List.contains_cons, ch.noA]
    rfl
  have outN : (Value.ref C :: bm).contains (.type "NameError") = false := by
    rw [List.contains_cons, ch.noN]
    rfl
  refine codeAny_builtinAt F.entry ?_
  unfold Builtin.«BaseException.__new__»
  apply wpAt_bind
  show wpAt _ _ _ (stack >>= _) _ _ _
  apply wpAt_bind
  apply wpAt_stack
  intro p below
  apply wpAt_of_wpAny
  wp_walk
  apply wpAt_of_wpAny
  rw [F.owner]
  repeat (first
    | with_reducible refine wpAny_madeHere_exc F.canon atC ?_
    | with_reducible refine wpAny_loadPart_at atC ?_
    | (with_reducible refine wpAny_isSubtype_exc atC ?_; first | rw [inB] | rw [outA] | rw [outN])
    | wp_step)
  show R _ _
  rw [Heap.size_push]
  exact hq

theorem runCall (F : ExcBaseFacts B newId initId bmB) (ch : Chain bm B) {iv : Value} {Q : Fin → Shared → Prop} (atC : h.get? C = some (excClassObj nm q C N bs bm hdct sn sub ab col dd k0 k1 k2 k3 k5 newId))
    (lk : W.Looks (model prog w) h (typeLookup (.ref C) "__init__") (some iv)) (bd : ∀ self, W.Looks (model prog w) h (bindSpecial iv self) (iv, [self])) (short : rest.length ≤ sizeLine)
    (hq : codeAny (model prog w) A (.call iv ⟨.ref (h.objs.size + 1) :: rest, kw⟩)
      (fun r s' => match r with
        | .ok (.ret v) => v = .none ∧ Q (.done (.ret (.ref (h.objs.size + 1)))) s'
        | .ok _ => False
        | .error e => E e s')
      ⟨(h.push (W.kdv_tup rest)).push (HandSPX.excO C h.objs.size), g, d, t, os⟩) :
    wpAny (model prog w) A (Builtin.«type.__call__» ⟨.ref C :: rest, kw⟩) Q E ⟨h, g, d, t, os⟩ := by
  repeat (first
    | with_reducible refine wpAny_loadPart_at atC ?_
    | with_reducible refine wpAny_madeBy_exc atC ?_
    | wp_step)
  refine codeAny_call_builtin_code (Code.quiet_builtin _ F.quiet) (checkNew F ch atC ?_)
  refine runNew F ch atC short ?_
  show wpAny _ _ _ _ _ _
  have grown : ∀ b o, h.get? b = some o → ((h.push (W.kdv_tup rest)).push (HandSPX.excO C h.objs.size)).get? b = some o :=
    fun b o e => Heap.get?_push_of_some _ (Heap.get?_push_of_some _ e)
  have atC1 := grown _ _ atC
  have made : ((h.push (W.kdv_tup rest)).push (HandSPX.excO C h.objs.size)).get? (h.objs.size + 1) = some (HandSPX.excO C h.objs.size) := by heap_get
  have self_ : (Value.ref C :: bm).contains (.ref C) = true := by simp
  have lk1 := lk.keeps grown
  have bd1 := (bd (.ref (h.objs.size + 1))).keeps grown
  unfold isInstance
  repeat (first
    | with_reducible refine wpAny_loadPart_at made ?_
    | (with_reducible refine wpAny_isSubtype_exc atC1 ?_; rw [self_])
    | wp_step)
  show wpAny _ _ (typeLookup (.ref C) _) _ _ _
  refine lk1.at ?_
  refine wpAny_holding (wpAny_bind (bd1.at ?_))
  apply wpAny_bind
  refine wpAny_call (codeAny_mono hq ?_)
  intro r s' z
  match r, z with
  | .error e, z => exact z
  | .ok (.ret v), z =>
    obtain ⟨rfl, z⟩ := z
    first
      | exact wpAny_pure (wpAny_pure z)
      | (wp_walk; exact z)

theorem callE (F : ExcBaseFacts B newId initId bmB) (ch : Chain bm B) {iv : Value} (atC : h.get? C = some (excClassObj nm q C N bs bm hdct sn sub ab col dd k0 k1 k2 k3 k5 newId))
    (lk : W.Looks (model prog w) h (typeLookup (.ref C) "__init__") (some iv)) (bd : ∀ self, W.Looks (model prog w) h (bindSpecial iv self) (iv, [self])) (short : rest.length ≤ sizeLine)
    (hq : codeAny (model prog w) (A.under (.builtin "type.__call__" ⟨.ref C :: rest, kw⟩)) (.call iv ⟨.ref (h.objs.size + 1) :: rest, kw⟩) (W.InitBack (h.objs.size + 1) R)
      ⟨(h.push (W.kdv_tup rest)).push (HandSPX.excO C h.objs.size), g, d, t, os⟩) :
    codeAny (model prog w) A (.call (.ref C) ⟨rest, kw⟩) R ⟨h, g, d, t, os⟩ := by
  have e1 := tc_lookup
  have e2 := tc_bind (.ref C)
  have isT : (⟨h, g, d, t, os⟩ : Shared).TypeIs (.ref C) "type" := ⟨_, atC, rfl⟩
  apply codeAny_of_tree
  show wpAny _ _ (callAny (.ref C) _) _ _ _
  repeat (any_goals (first
    | assumption
    | with_reducible refine wpAny_loadPart_at atC ?_
    | wp_step))
  refine ⟨rfl, ?_⟩
  refine codeAny_call_builtin_at (Code.quiet_builtin _ (by decide +kernel)) entry_typeCall ?_
  refine wpAny_check_type_call_sub atC ?_
  refine runCall F ch atC lk bd short (codeAny_mono hq ?_)
  intro r s' z
  match r, z with
  | .error e, z => exact z
  | .ok (.ret v), z => exact z
end
end WbE
end PySem

set_option Elab.async false
set_option linter.all false
set_option maxRecDepth 100000
set_option maxHeartbeats 4000000
/-! Wb3: own exceptions as tracked values. -/
namespace PySem.F
theorem storeKeyError : StoreFacts "KeyError"
    [.type "KeyError", .type "LookupError", .type "Exception", .type "BaseException", .type "object"]
    "object.__setattr__" "object" := by
  refine ⟨by kernel_rfl, ?_, entry_object_sa, by decide +kernel, by decide +kernel, by decide +kernel, ?_, fun _ => by kernel_rfl⟩
  · refine .of (owner := "object") (n := "__setattr__") ?_ (by decide +kernel) (by decide +kernel) (by decide +kernel) ?_ ?_
    · rw [typeLookup_type, builtinLookup_eq_fast]
      kernel_rfl
    · first
        | exact .inl (by decide +kernel)
        | exact .inr (by decide +kernel)
    · rw [isSubtype_type]
      kernel_rfl
  · intro a b c
    unfold argsOk
    kernel_rfl
end PySem.F
namespace PySem
namespace WbE
open PySem.W PySem.Calls PyProof.Rows
section
open Builtin Builtin.ObjectAttr
variable {prog : Program} {w : World} {A : Around} {R : Result → Shared → Prop} {hp : Heap} {g : Array GenState} {d : Drawn} {t : Nat} {os : OsState}
/-- the first field of an exception of an own class, whatever its built-in base -/
theorem setFirst {S : String} {bmS : List Value} {K : W.Frag} {name : Str} {tk : Tok} {v : Value} {x C : Addr} {fv : Array Value} {cd : ClassData} (SF : StoreFacts S bmS "object.__setattr__" "object")
    (X : K.In hp) (hx : hp.get? x = some { cls := .ref C, data := .fields fv }) (hcd : W.clsIn K C = some cd) (hd : cd.hasDict = true) (over : excOver K C bmS = true) (no : W.findIn K (.ref C) name = some none)
    (hq : ∀ h' tk' dx, (∀ b o, b ≠ x → hp.get? b = some o → h'.get? b = some o) → hp.objs.size ≤ dx → dx ≠ x →
      h'.get? x = some { cls := .ref C, dict := some dx, data := .fields fv } → h'.Ns1 dx (fun y => if y = name then some v else none) → R (.ok (.ret .none)) ⟨h', g, d, tk', os⟩) :
    codeAny (model prog w) A (.call (.builtin "object.__setattr__") ⟨[.ref x, .str name tk, v], []⟩) R ⟨hp, g, d, t, os⟩ := by
  have at_ : W.InstAt hp x { cls := .ref C, data := .fields fv } C none := ⟨hx, rfl, rfl, trivial⟩
  have ne : x ≠ hp.objs.size := Nat.ne_of_lt (Heap.lt_size hx)
  have look : W.Looks (model prog w) hp (classData C) cd := W.looks_clsIn X hcd
  have taker : W.takerIn K C name = some none := by
    unfold W.takerIn
    rw [no]
    rfl
  refine W.osa_openX (s := ⟨hp, g, d, t, os⟩) SF X at_ over taker fun b => ?_
  obtain ⟨c1, c2, c3, c4, c5, hasD, c7, c8, c9, c10, c11⟩ := cd
  dsimp only at hd
  subst hd
  unfold storeInOwnDict ownDictForStores
  repeat (first
    | with_reducible refine HandSPX.store_in_new ?_ ?_
    | with_reducible refine wpAny_loadPart_at hx ?_
    | with_reducible refine look.at ?_
    | wp_step)
  · exact ⟨_, #[], _, (Heap.get?_update_ne _ _ _ _ ne.symm).trans (Heap.get?_push_at rfl rfl), rfl, fun e he => absurd he (by simp), fun _ => rfl⟩
  · intro h' tk' ns' same
    have pushed : (hp.push { cls := .type "dict", data := .dict #[] }).get? x = some { cls := .ref C, data := .fields fv } := Heap.get?_push_of_some _ hx
    refine hq h' tk' hp.objs.size ?_ (Nat.le_refl _) ne.symm ?_ ns'
    · intro b o hb ho
      rw [same.2 b (Nat.ne_of_lt (Heap.lt_size ho)), Heap.get?_update_ne _ _ _ _ hb]
      exact Heap.get?_push_of_some _ ho
    · rw [same.2 x ne]
      exact Heap.get?_update_self _ pushed rfl
end
end WbE
end PySem

namespace Wb
open PySem PySem.Spec PyProof.Rows L2
/-- what the written part says of an own exception's class at C: made by newId (of the built-in B), the fields stored as S's chain stores them -/
structure ErrC (K : PySem.W.Frag) (C : Addr) : Prop where
  new : ∃ (B newId initId : String) (bmB : List Value) (nm q : Str) (N : Addr) (bs bm : List Value) (sn : List Str) (sub : List Value) (ab : Bool) (col : Option Bool) (dd : Option Addr) (k0 k1 k2 k3 k5 : Option Value),
    PySem.ExcBaseFacts B newId initId bmB ∧ PySem.WbE.Chain bm B ∧ K.lookup C = some (excClassObj nm q C N bs bm true sn sub ab col dd k0 k1 k2 k3 k5 newId)
  store : ∃ (S : String) (bmS : List Value), PySem.StoreFacts S bmS "object.__setattr__" "object" ∧ PySem.W.excOver K C bmS = true
  sa : PySem.W.findIn K (.ref C) "__setattr__" = some (some (.builtin "object.__setattr__"))
  ga : PySem.W.findIn K (.ref C) "__getattribute__" = some (some (.builtin "BaseException.__getattribute__"))
  gg : PySem.W.findIn K (.ref C) "__getattr__" = some none
  exc : PySem.W.subIn K (.ref C) (.type "BaseException") = some true
  ty : PySem.W.typeIn K (.ref C) = some (.type "type")
  hd : PySem.W.hasDictIn K C = true
  kp : PySem.W.keepIn K (.ref C) = true
  hc : PySem.W.findIn K (.ref C) "__class__" = some (some (.builtin "object.__class__"))
  hn : PySem.W.specialIn K (.builtin "object.__class__") "__get__" = some (some (.builtin "getset_descriptor.__get__"))
  ht : PySem.W.takesIn K (.builtin "object.__class__") = some true
  hm : PySem.W.mroIn K C (.type "object") = some true

section
variable {X : Cx} {pins : List (Addr × Obj)} {σ : L2.St} {H : Hp} {s : Shared} {a C dx fI : Addr} {f : Str} {y v : V} {u : Value} {fs : List (Str × V)} {A : Around} {k : Nat}
/-- self.f = y in an __init__, the first field -/
theorem setNew {Q : Unit → Shared → Prop} {E : Value → Shared → Prop} (T : ErrC X.K C) (I : Inv X pins σ H s) (e : H a = some (exo a C none)) (no : PySem.W.findIn X.K (.ref C) f = some none) (ry : RelV y u)
    (h : ∀ dx s', H dx = none → dx ≠ a → Inv X pins σ (upd (upd H dx (exd dx [(f, y)])) a (exo a C (some dx))) s' → Q () s') : wpAny (model X.prog X.w) A (setAttr (.ref a) f u) Q E s := by
  obtain ⟨B, newId, initId, bmB, nm, q, N, bs, bm, sn, sub, ab, col, dd, k0, k1, k2, k3, k5, _, _, atC⟩ := T.new
  obtain ⟨S, bmS, SF, over⟩ := T.store
  have cls : PySem.W.clsIn X.K C = some { name := nm, bases := bs, mro := .ref C :: bm, ns := N, qualname := q, hasDict := true, slotNames := sn, subclasses := sub, abstract := ab, collection := col, hasDel := false } := by
    unfold PySem.W.clsIn
    rw [atC] <;> rfl
  obtain ⟨t1, ho⟩ := exo_at I.hok e
  obtain ⟨hp, g, d, t, os⟩ := s
  refine PySem.W.set_plain I.kIn (ox := { cls := .ref C, dict := none, data := .fields #[.ref t1, .none, .none, .none, .bool false, .none] }) (od := none) ⟨ho, rfl, rfl, trivial⟩ T.sa ?_
  refine PySem.WbE.setFirst SF I.kIn ho cls rfl over no ?_
  intro h' tk' dx kept big ne hx ns'
  have free : H dx = none := I.hok.fresh big
  have old : ∀ {b : Addr} {o : Obj}, hp.get? b = some o → b ≠ dx := fun {b o} z => Nat.ne_of_lt (Nat.lt_of_lt_of_le (Heap.lt_size z) big)
  have notA : ∀ {b : Addr}, H b = none → b ≠ a := by
    intro b n z
    rw [z, e] at n
    cases n
  have un : Un X.fs [] H (upd (upd H dx (exd dx [(f, y)])) a (exo a C (some dx))) hp h' := by
    constructor
    · exact fun b o z n _ _ => kept b o (notA n) z
    · exact fun b o z n _ _ => ⟨o.slots, kept b o (notA n) z⟩
    · intro b o z n _
      rw [upd_ne (notA n), upd_ne (old z)]
      exact n
    · intro b o z _
      by_cases hb : b = a
      · exact ⟨_, by rw [hb]; exact hx⟩
      · exact ⟨o, kept b o hb z⟩
    · intro b xs z
      rw [upd_ne (at_ne e z exo_tup), upd_ne (ne_of_none z free)]
      exact z
    · intro b o w z
      rw [upd_ne (at_ne e z exo_frz), upd_ne (ne_of_none z free)]
      exact z
    · intro b ps z
      refine ⟨#[], ?_⟩
      rw [upd_ne (at_ne e z exo_tbl), upd_ne (ne_of_none z free), z]
      simp
  refine h dx _ free ne (I.un (t' := tk') un ?_)
  intro b o z
  by_cases hb : b = a
  · subst hb
    rw [upd_same] at z
    cases z
    exact exo_ok hx
  rw [upd_ne hb] at z
  by_cases hb2 : b = dx
  · subst hb2
    rw [upd_same] at z
    cases z
    exact exd_ok ns' (relO_put (fs := []) ry fun g => True.intro)
  rw [upd_ne hb2] at z
  refine (I.hok b o z).stay ?_ ?_ ?_
  · intro c w hc z2
    refine kept c w ?_ z2
    rcases hc with hc | hc
    · rw [hc]; exact hb
    · exact at_ne e hc exo_own
  · intro c hc
    rw [upd_ne (at_ne e hc exo_own), upd_ne (ne_of_none hc free)]
    exact hc
  · intro c xs hc
    rw [upd_ne (at_ne e hc exo_tup), upd_ne (ne_of_none hc free)]
    exact hc

/-- C(..), C(k = ..) with C's own __init__: an exception at a new address -/
theorem runErr {CX : CXT} {fd : FuncData} {ps : List Str} {sp : Sp} {us : List Value} {kw : List (Str × Value)} {vs : List V} {binds : List Value} {Q : VK} (T : ErrC X.K C) (iC : PySem.W.findIn X.K (.ref C) "__init__" = some (some (.ref fI)))
    (tI : PySem.W.typeIn X.K (.ref fI) = some (.type "function")) (F1 : FnOk X.prog X.w X.K X.mg X.base CX k fI fd ps sp) (room : Room (k + 1) X.A) (hx : Passes CX X (fun _ _ _ => False)) (I : Inv X pins σ H s) (short : us.length ≤ sizeLine)
    (bind : ∀ (s' : Shared) (a : Addr), X.K.In s'.heap → BindsTo s' fd ⟨.ref a :: us, kw⟩ (ps.zip (.ref a :: binds))) (rel : Vals vs binds)
    (h : ∀ a, H a = none → sp (.ref a :: vs) (upd H a (exo a C none)) (fun v H2 => v = .non ∧ Q (.ref a) H2) (fun _ _ _ => False)) :
    wpAny (model X.prog X.w) X.A (call (.ref C) us kw) (EP X pins σ Q) X.xe s := by
  obtain ⟨B, newId, initId, bmB, nm, q, N, bs, bm, sn, sub, ab, col, dd, k0, k1, k2, k3, k5, FB, ch, atC⟩ := T.new
  obtain ⟨hp, g, dr, tk, os⟩ := s
  have le1 : hp.objs.size ≤ hp.objs.size + 1 := Nat.le_succ _
  have free : H (hp.objs.size + 1) = none := I.hok.fresh le1
  have want := h _ free
  have grown : ∀ b o, hp.get? b = some o → ((hp.push (PySem.W.kdv_tup us)).push (PySem.HandSPX.excO C hp.objs.size)).get? b = some o :=
    fun b o e => Heap.get?_push_of_some _ (Heap.get?_push_of_some _ e)
  have made : ((hp.push (PySem.W.kdv_tup us)).push (PySem.HandSPX.excO C hp.objs.size)).get? (hp.objs.size + 1) = some (PySem.HandSPX.excO C hp.objs.size) := by heap_get
  have I2 : Inv X pins σ (upd H (hp.objs.size + 1) (exo (hp.objs.size + 1) C none)) ⟨(hp.push (PySem.W.kdv_tup us)).push (PySem.HandSPX.excO C hp.objs.size), g, dr, tk, os⟩ :=
    I.laid (t' := tk) (a := hp.objs.size + 1) (o := exo (hp.objs.size + 1) C none) (h' := (hp.push (PySem.W.kdv_tup us)).push (PySem.HandSPX.excO C hp.objs.size)) grown le1 (exo_ok made)
  have rel2 : Vals (V.ref (hp.objs.size + 1) :: vs) (Value.ref (hp.objs.size + 1) :: binds) := .cons rfl rel
  apply wpAny_call
  refine PySem.WbE.callE (iv := .ref fI) FB ch (I.kIn _ _ atC) (PySem.W.looks_findIn I.kIn iC) (fun self => PySem.W.bind_fn I.kIn self tI) short ?_
  refine codeAny_mono (F1.run _ X.stack _ _ ⟨Value.ref (hp.objs.size + 1) :: us, kw⟩ (Value.ref (hp.objs.size + 1) :: binds) _ _ (fun _ _ _ => False) (room.make C us kw) (I2.env0.make C us kw) (bind _ _ I2.kIn) rel2 want) ?_
  intro r s' got
  match r, got with
  | .error er, got => exact hx pins σ _ _ er s' I2 got
  | .ok (.ret u), got =>
    obtain ⟨v, H', I3, rv, ev, q3⟩ := I2.after got
    subst ev
    exact ⟨rv, ⟨V.ref (hp.objs.size + 1), H', I3, rfl, q3⟩⟩
end
end Wb

set_option Elab.async false
set_option linter.all false
set_option maxRecDepth 100000
set_option maxHeartbeats 4000000
/-! Wb4: the rules over them. -/
namespace Wb
open PySem PySem.Spec PyProof.Rows L2

theorem upd_mid {H : Hp} {a d : Addr} {o p q : HO} : upd (upd (upd H a o) d p) a q = upd (upd H d p) a q := by
  funext b
  unfold upd
  by_cases h : b = a
  · rw [if_pos h, if_pos h]
  · rw [if_neg h, if_neg h]
    by_cases h2 : b = d
    · rw [if_pos h2, if_neg h]
    · rw [if_neg h2, if_neg h]

/-- self.f = e of an exception's __init__ -/
def tIni (K : PySem.W.Frag) (f : Str) (to te : TE) : TS := fun D σ H => te σ H fun y H1 => to σ H1 fun x H2 =>
  ∃ a C : Addr, x = .ref a ∧ ErrC K C ∧ PySem.W.findIn K (.ref C) f = some none ∧ H2 a = some (exo a C none) ∧
    ∀ dx, H2 dx = none → dx ≠ a → D.nx σ (upd (upd H2 dx (exd dx [(f, y)])) a (exo a C (some dx)))
/-- err.f -/
def tEFld (K : PySem.W.Frag) (f : Str) (to : TE) : TE := fun σ H Q => to σ H fun x H1 =>
  ∃ (a C dx : Addr) (fs : List (Str × V)) (v : V), x = .ref a ∧ H1 a = some (exo a C (some dx)) ∧ H1 dx = some (exd dx fs) ∧ ErrC K C ∧ PySem.W.findIn K (.ref C) f = some none ∧ fs.lookup f = some v ∧ Q v H1
/-- isinstance(err, c) -/
def rIsErr (K : PySem.W.Frag) : List V → Hp → VK → Prop := fun xs H Q =>
  ∃ (a C : Addr) (od : Option Addr) (c : V) (cu : Value) (b : Bool), xs = [.ref a, c] ∧ H a = some (exo a C od) ∧ (∀ dx, od = some dx → ∃ fs, H dx = some (exd dx fs)) ∧ ErrC K C ∧ ClsV c cu ∧
    PySem.W.kitOne K (.ref C) cu = some b ∧ Q (.bl b) H
/-- C(v): an exception at a, its dict at dx -/
def tErr (C : Addr) (f : Str) (ta : TA) : TE := fun σ H Q => ta σ H fun vs H1 =>
  ∃ v, vs = [v] ∧ ∀ a dx, H1 a = none → H1 dx = none → dx ≠ a → Q (.ref a) (upd (upd H1 dx (exd dx [(f, v)])) a (exo a C (some dx)))
/-- the same, to be raised -/
def tErrX (C : Addr) (f : Str) (ta : TA) : L2.St → Hp → XK → Prop := fun σ H Q => ta σ H fun vs H1 =>
  ∃ v, vs = [v] ∧ ∀ dx, H1 dx = none → Q (.ref C) (some dx) (upd H1 dx (.xd [(f, v)]))
/-- __init__(self, f): self.f = f -/
def spIni (C : Addr) (f : Str) : Sp := fun vs H Q _ => ∃ (a : Addr) (v : V), vs = [.ref a, v] ∧ H a = some (exo a C none) ∧
  ∀ dx, H dx = none → dx ≠ a → Q .non (upd (upd H dx (exd dx [(f, v)])) a (exo a C (some dx)))
/-- __init__(self): pass -/
def spIni0 : Sp := fun vs H Q _ => ∃ a : Addr, vs = [.ref a] ∧ Q .non H

section
variable {X : Cx} {o e : Expr} {es : List Expr} {kws : List Keyword} {to te : TE} {ta : TA} {f x : Str} {p p' pos : Pos} {C fI : Addr} {fd : FuncData} {CX : CXT} {k : Nat}
theorem ps_ini (ho : PE X o to) (he : PE X e te) (hs : swapsWith e (some (.Attribute o f p')) pos.line X.env = pure false := by rfl) : PS X (.Assign [.Attribute o f p'] e pos) (tIni X.K f to te) := by
  constructor
  intro pins s σ H D I h
  refine plainObj_wpAny_Assign_Attribute (thn (he.run pins s σ H _ I h) ?_) hs
  rintro v s1 ⟨y, H1, I1, ry, q1⟩
  refine thn (ho.run pins s1 σ H1 _ I1 q1) ?_
  rintro u s2 ⟨x, H2, I2, rx, a, C, rfl, T, no, ea, q⟩
  obtain rfl : u = Value.ref a := rx
  exact setNew T I2 ea no ry fun dx s' n ne J => ⟨σ, _, J, q dx n ne⟩

theorem readErr {pins : List (Addr × Obj)} {σ : L2.St} {H : Hp} {s : Shared} {a dx : Addr} {fs : List (Str × V)} {v : V} {b : Bool} {A : Around} {Q : Value → Shared → Prop} {E : Value → Shared → Prop} (T : ErrC X.K C) (I : Inv X pins σ H s) (ea : H a = some (exo a C (some dx)))
    (ed : H dx = some (exd dx fs)) (no : PySem.W.findIn X.K (.ref C) f = some none) (l : fs.lookup f = some v) (h : ∀ u t', RelV v u → Q u { s with toks := t' }) : wpAny (model X.prog X.w) A (getAttr (.ref a) f b) Q E s := by
  obtain ⟨t1, ho⟩ := exo_at I.hok ea
  obtain ⟨mA, hns, rel⟩ := exd_at I.hok ed
  obtain ⟨od, hod, look⟩ := lookIn_ns hns
  obtain ⟨u, hu, ru⟩ := RelO.some_of (v := v) (o := mA f) (by rw [← l]; exact rel f)
  exact PySem.HandSPX.exc_get (od := some od) I.kIn ⟨ho, rfl, rfl, hod⟩ T.ga T.gg T.exc (PySem.W.findObj_own T.hd no rfl (by rw [look, hu])) (handed_of ru) (h u _ ru)

theorem pe_efld (ho : PE X o to) (hb : attributeBase o f X.env (eval o X.env) = eval o X.env := by rfl) : PE X (.Attribute o f pos) (tEFld X.K f to) := by
  constructor
  intro pins s σ H Q I h
  refine attr_of hb (thn (ho.run pins s σ H _ I h) ?_)
  rintro u s1 ⟨x, H1, I1, rx, a, C, dx, fs, v, rfl, ea, ed, T, no, l, q⟩
  obtain rfl : u = Value.ref a := rx
  exact readErr T I1 ea ed no l fun w t' rw' => ⟨v, H1, I1.tok t', rw', q⟩

theorem call_isErr : CallR X (.builtin "isinstance") (rIsErr X.K) := by
  intro pins s σ H xs us Q I r h
  obtain ⟨a, C, od, c, cu, b, rfl, ea, hod, T, kc, ek, q⟩ := h
  obtain ⟨u1, u2, rfl, r1, r2⟩ := vals2 r
  obtain rfl : u1 = Value.ref a := r1
  have e2 := kc.eq r2
  subst e2
  obtain ⟨t1, ho⟩ := exo_at I.hok ea
  have cls : (PySem.W.clsIn X.K C).isSome = true := by
    obtain ⟨cd, hcd, _⟩ := PySem.W.any_some T.hd
    rw [hcd]
    rfl
  have fin : ∀ tk, EP X pins σ Q (.bool b) { s with toks := tk } := fun tk => ⟨.bl b, H, I.tok tk, rfl, q⟩
  cases od with
  | none =>
    exact PySem.W.kia_one (PySem.W.kitx_exc (od := none) cls T.ga T.gg T.exc T.hc T.hn T.ht T.hm) I.kIn (⟨ho, rfl, rfl, trivial⟩ : PySem.W.InstAt s.heap a _ C none) ek (fun z => nomatch z) fin
  | some dx =>
    obtain ⟨fs, ed⟩ := hod dx rfl
    obtain ⟨mA, hns, _⟩ := exd_at I.hok ed
    obtain ⟨od, hod, _⟩ := lookIn_ns hns
    exact PySem.W.kia_one (PySem.W.kitx_exc (od := some od) cls T.ga T.gg T.exc T.hc T.hn T.ht T.hm) I.kIn (⟨ho, rfl, rfl, hod⟩ : PySem.W.InstAt s.heap a _ C (some od)) ek (fun z => nomatch z) fin

/-- C(e) -/
theorem pe_err (T : ErrC X.K C) (iC : PySem.W.findIn X.K (.ref C) "__init__" = some (some (.ref fI))) (tI : PySem.W.typeIn X.K (.ref fI) = some (.type "function")) {ps : List Str} (F1 : FnOk X.prog X.w X.K X.mg X.base CX k fI fd ps (spIni C f)) (room : Room (k + 1) X.A)
    (hb : Binds X.K fd ps []) (hx : Passes CX X (fun _ _ _ => False)) (hg : Gl X x) (hm : X.mg x = some (.ref C)) (ha : PA X (e :: es) ta) (hdb : (x == ("__debug__" : Str)) = false := by decide)
    (he : starEach (e :: es) X.env = (false, eval e X.env) :: starEach es X.env := by rfl) (hpl : (backTo pos (starEach es X.env)).any (·.1) = false := by rfl) : PE X (.Call (.Name x p) (e :: es) [] pos) (tErr C f ta) := by
  constructor
  intro pins s σ H Q I h
  apply wpAny_Call_Name_kw
  apply ld_glob I hg hm _ hdb
  refine PySem.W.callWith_K (h₀ := X.base) I.ok.mod.kin T.kp (thn (ha.run pos pins s σ H _ I h) ?_) he hpl
  rintro us s1 ⟨vs, H1, I1, r1, v, rfl, q⟩
  refine ⟨I1.kIn, ?_⟩
  show wpAny _ _ (call (.ref C) us) _ _ _
  have want : ∀ a : Addr, H1 a = none → spIni C f (.ref a :: [v]) (upd H1 a (exo a C none)) (fun v H2 => v = .non ∧ Q (.ref a) H2) (fun _ _ _ => False) := by
    intro a ha
    refine ⟨a, v, rfl, upd_same, fun dx hd ne => ⟨rfl, ?_⟩⟩
    rw [upd_mid]
    rw [upd_ne ne] at hd
    exact q a dx ha hd ne
  have many : ∀ a : Addr, (Value.ref a :: us).length = ps.length := by
    intro a
    obtain ⟨n0, hn0⟩ : ∃ n0, H1 n0 = none := ⟨s1.heap.objs.size, I1.hok.fresh (Nat.le_refl _)⟩
    have e1 := F1.len _ _ _ _ (want n0 hn0)
    have e2 := r1.length
    simp only [List.length_cons] at e1 e2 ⊢
    omega
  refine runErr T iC tI F1 room hx I1 (binds := us) (vs := [v]) ?_ ?_ r1 want
  · rw [← r1.length, sizeLine_eq]
    simp
  · intro s' a inK
    have q2 := hb s' (.ref a :: us) inK (by rw [List.append_nil]; exact many a)
    rw [List.append_nil] at q2
    exact q2

/-- C(f = e) -/
theorem pe_errK {g : Str} {kpos : Pos} (T : ErrC X.K C) (iC : PySem.W.findIn X.K (.ref C) "__init__" = some (some (.ref fI))) (tI : PySem.W.typeIn X.K (.ref fI) = some (.type "function")) {s0 : Str} (F1 : FnOk X.prog X.w X.K X.mg X.base CX k fI fd [s0, g] (spIni C f)) (room : Room (k + 1) X.A)
    (hb : ∀ (s' : Shared) (a v : Value), BindsTo s' fd ⟨[a], [(g, v)]⟩ [(s0, a), (g, v)]) (hx : Passes CX X (fun _ _ _ => False)) (hg : Gl X x) (hm : X.mg x = some (.ref C)) (he : PE X e te) (hdb : (x == ("__debug__" : Str)) = false := by decide) :
    PE X (.Call (.Name x p) [] [⟨some g, e, kpos⟩] pos) (tErr C f (tCons te tNil)) := by
  constructor
  intro pins s σ H Q I h
  apply wpAny_Call_Name_kw
  apply ld_glob I hg hm _ hdb
  have pk : PK X [⟨some g, e, kpos⟩] (tCons te tNil) := pk_cons he pk_nil
  refine PySem.W.callWith_KW0 (h₀ := X.base) I.ok.mod.kin T.kp (by rfl) (thn (pk.run pos pins s σ H _ I h) ?_)
  rintro us s1 ⟨vs, H1, I1, r1, v, rfl, q⟩
  refine ⟨I1.kIn, ?_⟩
  have want : ∀ a : Addr, H1 a = none → spIni C f (.ref a :: [v]) (upd H1 a (exo a C none)) (fun v H2 => v = .non ∧ Q (.ref a) H2) (fun _ _ _ => False) := by
    intro a ha
    refine ⟨a, v, rfl, upd_same, fun dx hd ne => ⟨rfl, ?_⟩⟩
    rw [upd_mid]
    rw [upd_ne ne] at hd
    exact q a dx ha hd ne
  cases r1 with
  | cons rv rn =>
  cases rn
  rename_i u
  refine runErr (us := []) (kw := [(g, u)]) T iC tI F1 room hx I1 (binds := [u]) (vs := [v]) (by rw [sizeLine_eq]; simp) ?_ (.cons rv .nil) want
  intro s' a inK
  exact hb s' _ _
end
end Wb

set_option Elab.async false
set_option linter.all false
set_option maxRecDepth 100000
set_option maxHeartbeats 4000000
/-! Wb5: own exceptions raised; those whose __init__ does nothing; those without one. -/
namespace Wb
open PySem PySem.Spec PyProof.Rows L2

section
variable {X : Cx} {e : Expr} {es : List Expr} {te : TE} {ta : TA} {f x : Str} {p p' pos : Pos} {C fI : Addr} {fd : FuncData} {CX : CXT} {k : Nat}
theorem untracked' {H : Hp} {a dx : Addr} {o o' u : HO} {z : HO} (ha : H a = none) (ne : dx ≠ a) : upd (del (upd (upd (upd H a o) dx u) a o') a) dx z = upd H dx z := by
  funext b
  unfold upd del
  by_cases h : b = dx
  · rw [if_pos h, if_pos h]
  · rw [if_neg h, if_neg h]
    by_cases h2 : b = a
    · rw [if_pos h2, h2, ha]
    · rw [if_neg h2]
      show (if b = a then some o' else if b = dx then some u else if b = a then some o else H b) = H b
      rw [if_neg h2, if_neg h, if_neg h2]

/-- C(e), to be raised -/
theorem pmk_err (T : ErrC X.K C) (iC : PySem.W.findIn X.K (.ref C) "__init__" = some (some (.ref fI))) (tI : PySem.W.typeIn X.K (.ref fI) = some (.type "function")) {ps : List Str} (F1 : FnOk X.prog X.w X.K X.mg X.base CX k fI fd ps (spIni C f)) (room : Room (k + 1) X.A)
    (hb : Binds X.K fd ps []) (hx : Passes CX X (fun _ _ _ => False)) (hg : Gl X x) (hm : X.mg x = some (.ref C)) (ha : PA X (e :: es) ta) (hdb : (x == ("__debug__" : Str)) = false := by decide)
    (he : starEach (e :: es) X.env = (false, eval e X.env) :: starEach es X.env := by rfl) (hpl : (backTo pos (starEach es X.env)).any (·.1) = false := by rfl) : PMk X (.Call (.Name x p) (e :: es) [] pos) (tErrX C f ta) := by
  intro pins s σ H Q I h
  obtain ⟨B, newId, initId, bmB, nm, q, N, bs, bm, sn, sub, ab, col, dd, k0, k1, k2, k3, k5, FB, ch, atC⟩ := T.new
  apply wpAny_Call_Name_kw
  apply ld_glob I hg hm _ hdb
  refine PySem.W.callWith_K (h₀ := X.base) I.ok.mod.kin T.kp (thn (ha.run pos pins s σ H _ I h) ?_) he hpl
  rintro us s1 ⟨vs, H1, I1, r1, v, rfl, q1⟩
  refine ⟨I1.kIn, ?_⟩
  show wpAny _ _ (call (.ref C) us) _ _ _
  obtain ⟨hp, g, dr, tk, os⟩ := s1
  have le1 : hp.objs.size ≤ hp.objs.size + 1 := Nat.le_succ _
  have free : H1 (hp.objs.size + 1) = none := I1.hok.fresh le1
  have want : spIni C f (.ref (hp.objs.size + 1) :: [v]) (upd H1 (hp.objs.size + 1) (exo (hp.objs.size + 1) C none))
      (fun r H2 => r = .non ∧ ∃ d : Addr, H2 (hp.objs.size + 1) = some (exo (hp.objs.size + 1) C (some d)) ∧ H2 d = some (exd d [(f, v)]) ∧ H1 d = none ∧ Q (.ref C) (some d) (upd (del H2 (hp.objs.size + 1)) d (.xd [(f, v)]))) (fun _ _ _ => False) := by
    refine ⟨_, v, rfl, upd_same, fun dx hd ne => ⟨rfl, dx, upd_same, ?_, ?_, ?_⟩⟩
    · rw [upd_ne ne, upd_same]
    · rw [upd_ne ne] at hd
      exact hd
    · rw [untracked' free ne]
      rw [upd_ne ne] at hd
      exact q1 dx hd
  have grown : ∀ b o, hp.get? b = some o → ((hp.push (PySem.W.kdv_tup us)).push (PySem.HandSPX.excO C hp.objs.size)).get? b = some o :=
    fun b o z => Heap.get?_push_of_some _ (Heap.get?_push_of_some _ z)
  have made : ((hp.push (PySem.W.kdv_tup us)).push (PySem.HandSPX.excO C hp.objs.size)).get? (hp.objs.size + 1) = some (PySem.HandSPX.excO C hp.objs.size) := by heap_get
  have I2 : Inv X pins σ (upd H1 (hp.objs.size + 1) (exo (hp.objs.size + 1) C none)) ⟨(hp.push (PySem.W.kdv_tup us)).push (PySem.HandSPX.excO C hp.objs.size), g, dr, tk, os⟩ :=
    I1.laid (t' := tk) (a := hp.objs.size + 1) (o := exo (hp.objs.size + 1) C none) (h' := (hp.push (PySem.W.kdv_tup us)).push (PySem.HandSPX.excO C hp.objs.size)) grown le1 (exo_ok made)
  have rel2 : Vals (V.ref (hp.objs.size + 1) :: [v]) (Value.ref (hp.objs.size + 1) :: us) := .cons rfl r1
  have many : (Value.ref (hp.objs.size + 1) :: us).length = ps.length := rel2.length.symm.trans (F1.len _ _ _ _ want)
  have short : us.length ≤ sizeLine := by
    rw [← r1.length, sizeLine_eq]
    simp
  have hb2 := hb ⟨(hp.push (PySem.W.kdv_tup us)).push (PySem.HandSPX.excO C hp.objs.size), g, dr, tk, os⟩ (Value.ref (hp.objs.size + 1) :: us) I2.kIn (by rw [List.append_nil]; exact many)
  rw [List.append_nil] at hb2
  apply wpAny_call
  refine PySem.WbE.callE (iv := .ref fI) FB ch (I1.kIn _ _ atC) (PySem.W.looks_findIn I1.kIn iC) (fun self => PySem.W.bind_fn I1.kIn self tI) short ?_
  refine codeAny_mono (F1.run _ X.stack _ _ ⟨Value.ref (hp.objs.size + 1) :: us, []⟩ (Value.ref (hp.objs.size + 1) :: us) _ _ (fun _ _ _ => False) (room.make C us []) (I2.env0.make C us []) hb2 rel2 want) ?_
  intro r s' got
  match r, got with
  | .error er, got => exact hx pins σ _ _ er s' I2 got
  | .ok (.ret u), got =>
    obtain ⟨r, H2, os2, bare2, un2, ok2, rv, ev, d, ea, ed, hd1, q2⟩ := got
    subst ev
    obtain ⟨h2, g2, d2, t2, os'⟩ := s'
    exact ⟨rv, mk_end (raises_own T.exc T.ty) I1 le1 grown un2 ok2 os2 bare2 ea ed hd1 q2⟩
end

/-! ### an __init__ that does nothing -/
section
variable {prog : Program} {w : World} {A : Around} {R : Result → Shared → Prop} {s : Shared} {K : PySem.W.Frag}
theorem idle {qual : Str} {st : Stmt} {fI : Addr} {fd : FuncData} {pp : Pos} {x : Value} (inK : K.In s.heap) (lim : s.heap.NoLimit) (F : Fun K "__init__" qual st fI fd) (body : defBody st = [.Pass pp])
    (S : FnScope ["self"] ["self"] (defScope st)) (loc : (defScope st).names.lookup ("self" : Str) = some NameKind.local) (bind : BindsTo s fd ⟨[x], []⟩ [("self", x)]) (room : A.depth < recursionLimit)
    (hq : ∀ h' tk, (∀ b o, s.heap.get? b = some o → h'.get? b = some o) → R (.ok (.ret .none)) { s with heap := h', toks := tk }) :
    codeAny (model prog w) A (.call (.ref fI) ⟨[x], []⟩) R s := by
  obtain ⟨a1, a2, a3, a4, a5, a6, cdv, a8, a9, rfl, found, coded⟩ := F.ex
  refine Att.call_fn inK lim found coded room bind ?_ ?_ S.co S.gen S.kind
  · simp [loc]
  · intro s1 ic
    obtain ⟨h1, tk1, rfl⟩ := ic.toInCall.same
    rw [body]
    refine wpAny_execs_cons (wpAny_Pass ?_)
    exact wpAny_execs_nil (hq h1 tk1 ic.toInCall.keep)
end
section
variable {X : Cx} {f x : Str} {p pos : Pos} {C fI : Addr} {fd : FuncData} {k : Nat}
/-- C(): an exception at a new address -/
def tErr0 (C : Addr) : TE := fun _ H Q => ∀ a, H a = none → Q (.ref a) (upd H a (exo a C none))
def tErrX0 (C : Addr) : L2.St → Hp → XK → Prop := fun _ H Q => Q (.ref C) none H

theorem run0 {pins : List (Addr × Obj)} {σ : L2.St} {H : Hp} {s : Shared} {qual : Str} {st : Stmt} {pp : Pos} {Q : Value → Shared → Prop} {E : Value → Shared → Prop} (T : ErrC X.K C) (iC : PySem.W.findIn X.K (.ref C) "__init__" = some (some (.ref fI))) (tI : PySem.W.typeIn X.K (.ref fI) = some (.type "function"))
    (F : Fun X.K "__init__" qual st fI fd) (body : defBody st = [.Pass pp]) (S : FnScope ["self"] ["self"] (defScope st)) (loc : (defScope st).names.lookup ("self" : Str) = some NameKind.local) (bind : ∀ (s : Shared) (v : Value), BindsTo s fd ⟨[v], []⟩ [("self", v)]) (room : Room 1 X.A) (I : Inv X pins σ H s)
    (hq : ∀ h' tk t0, (∀ b o, s.heap.get? b = some o → h'.get? b = some o) → h'.get? (s.heap.objs.size + 1) = some (PySem.HandSPX.excO C t0) → s.heap.get? t0 = none → h'.get? t0 = some (PySem.W.kdv_tup []) → Q (.ref (s.heap.objs.size + 1)) { s with heap := h', toks := tk }) :
    wpAny (model X.prog X.w) X.A (call (.ref C) []) Q E s := by
  obtain ⟨B, newId, initId, bmB, nm, q, N, bs, bm, sn, sub, ab, col, dd, k0, k1, k2, k3, k5, FB, ch, atC⟩ := T.new
  have lim := I.nolimit
  have inK := I.kIn
  obtain ⟨hp, g, dr, tk, os⟩ := s
  have grown : ∀ b o, hp.get? b = some o → ((hp.push (PySem.W.kdv_tup [])).push (PySem.HandSPX.excO C hp.objs.size)).get? b = some o :=
    fun b o z => Heap.get?_push_of_some _ (Heap.get?_push_of_some _ z)
  have made : ((hp.push (PySem.W.kdv_tup [])).push (PySem.HandSPX.excO C hp.objs.size)).get? (hp.objs.size + 1) = some (PySem.HandSPX.excO C hp.objs.size) := by heap_get
  have made2 : ((hp.push (PySem.W.kdv_tup [])).push (PySem.HandSPX.excO C hp.objs.size)).get? hp.objs.size = some (PySem.W.kdv_tup []) := by heap_get
  apply wpAny_call
  refine PySem.WbE.callE (iv := .ref fI) FB ch (inK _ _ atC) (PySem.W.looks_findIn inK iC) (fun self => PySem.W.bind_fn inK self tI) (by rw [sizeLine_eq]; simp) ?_
  refine idle (s := ⟨(hp.push (PySem.W.kdv_tup [])).push (PySem.HandSPX.excO C hp.objs.size), g, dr, tk, os⟩) (inK.keeps grown) (lim.keeps grown) F body S loc (bind _ _) ?_ ?_
  · have := (room.make C [] [] (k := 0)).depth
    exact this
  · intro h' tk' kept
    exact ⟨rfl, hq h' tk' hp.objs.size (fun b o z => kept b o (grown b o z)) (kept _ _ made) (Heap.get?_none_of_le (Nat.le_refl _)) (kept _ _ made2)⟩

theorem pe_err0 {qual : Str} {st : Stmt} {pp : Pos} (T : ErrC X.K C) (iC : PySem.W.findIn X.K (.ref C) "__init__" = some (some (.ref fI))) (tI : PySem.W.typeIn X.K (.ref fI) = some (.type "function"))
    (F : Fun X.K "__init__" qual st fI fd) (body : defBody st = [.Pass pp]) (S : FnScope ["self"] ["self"] (defScope st)) (loc : (defScope st).names.lookup ("self" : Str) = some NameKind.local) (bind : ∀ (s : Shared) (v : Value), BindsTo s fd ⟨[v], []⟩ [("self", v)]) (room : Room 1 X.A)
    (hg : Gl X x) (hm : X.mg x = some (.ref C)) (hdb : (x == ("__debug__" : Str)) = false := by decide) : PE X (.Call (.Name x p) [] [] pos) (tErr0 C) := by
  constructor
  intro pins s σ H Q I h
  apply wpAny_Call_Name_kw
  apply ld_glob I hg hm _ hdb
  refine PySem.W.callWith_K0 I.kIn T.kp ?_
  refine run0 T iC tI F body S loc bind room I ?_
  intro h' tk t0 kept made _ _
  exact ⟨.ref _, _, I.laid (t' := tk) kept (Nat.le_succ _) (exo_ok made), rfl, h _ (I.hok.fresh (Nat.le_succ _))⟩

theorem pmk_err0 {qual : Str} {st : Stmt} {pp : Pos} (T : ErrC X.K C) (iC : PySem.W.findIn X.K (.ref C) "__init__" = some (some (.ref fI))) (tI : PySem.W.typeIn X.K (.ref fI) = some (.type "function"))
    (F : Fun X.K "__init__" qual st fI fd) (body : defBody st = [.Pass pp]) (S : FnScope ["self"] ["self"] (defScope st)) (loc : (defScope st).names.lookup ("self" : Str) = some NameKind.local) (bind : ∀ (s : Shared) (v : Value), BindsTo s fd ⟨[v], []⟩ [("self", v)]) (room : Room 1 X.A)
    (hg : Gl X x) (hm : X.mg x = some (.ref C)) (hdb : (x == ("__debug__" : Str)) = false := by decide) : PMk X (.Call (.Name x p) [] [] pos) (tErrX0 C) := by
  intro pins s σ H Q I h
  apply wpAny_Call_Name_kw
  apply ld_glob I hg hm _ hdb
  refine PySem.W.callWith_K0 I.kIn T.kp ?_
  refine run0 T iC tI F body S loc bind room I ?_
  intro h' tk t0 kept made fr madeT
  have mexc : Heap.MadeExcOf s.heap h' (s.heap.objs.size + 1) (.ref C) [] := ⟨kept, Heap.get?_none_of_le (Nat.le_succ _), t0, made, fr, madeT⟩
  have J : Inv X pins σ H { s with toks := tk } := I.tok tk
  exact mk_of (s := { s with toks := tk }) J mexc (raises_own T.exc T.ty) h (I.hok.fresh (Nat.le_succ _))

/-- a class without own __init__: C() -/
theorem pe_errB {B newId initId : String} {bmB : List Value} (T : ErrC X.K C) (FB : PySem.ExcBaseFacts B newId initId bmB) (iC : PySem.W.findIn X.K (.ref C) "__init__" = some (some (.builtin initId)))
    (new : ∃ (nm q : Str) (N : Addr) (bs bm : List Value) (sn : List Str) (sub : List Value) (ab : Bool) (col : Option Bool) (dd : Option Addr) (k0 k1 k2 k3 k5 : Option Value),
      X.K.lookup C = some (excClassObj nm q C N bs bm true sn sub ab col dd k0 k1 k2 k3 k5 newId) ∧ PySem.WbE.Chain bm B ∧ ∀ X : String, bm.contains (.type X) = bmB.contains (.type X))
    (hg : Gl X x) (hm : X.mg x = some (.ref C)) (hdb : (x == ("__debug__" : Str)) = false := by decide) : PE X (.Call (.Name x p) [] [] pos) (tErr0 C) := by
  obtain ⟨nm, q, N, bs, bm, sn, sub, ab, col, dd, k0, k1, k2, k3, k5, atC, ch, hT⟩ := new
  constructor
  intro pins s σ H Q I h
  apply wpAny_Call_Name_kw
  apply ld_glob I hg hm _ hdb
  refine PySem.W.callWith_K0 I.kIn T.kp ?_
  show wpAny _ _ (call (.ref C) []) _ _ _
  have inK := I.kIn
  have fr := I.hok.fresh (a := s.heap.objs.size + 1) (Nat.le_succ _)
  obtain ⟨hp, g, dr, tk, os⟩ := s
  have grown : ∀ b o, hp.get? b = some o → ((hp.push (PySem.W.kdv_tup [])).push (PySem.HandSPX.excO C hp.objs.size)).get? b = some o :=
    fun b o z => Heap.get?_push_of_some _ (Heap.get?_push_of_some _ z)
  have made : ((hp.push (PySem.W.kdv_tup [])).push (PySem.HandSPX.excO C hp.objs.size)).get? (hp.objs.size + 1) = some (PySem.HandSPX.excO C hp.objs.size) := by heap_get
  apply wpAny_call
  refine PySem.WbE.callE (iv := .builtin initId) FB ch (inK _ _ atC) (PySem.W.looks_findIn inK iC) (fun self => ?_) (by rw [sizeLine_eq]; simp) ?_
  · rw [FB.init.bind self]
    exact .now
  · refine PySem.HandSPX.init_base FB hT (grown _ _ (inK _ _ atC)) made (by rw [sizeLine_eq]; simp) ?_
    intro h' t1 kept now
    have old : ∀ b o, hp.get? b = some o → h'.get? b = some o := fun b o z => kept b o (Nat.ne_of_lt (Nat.lt_succ_of_lt (Heap.lt_size z))) (grown b o z)
    exact ⟨rfl, .ref _, _, I.laid (t' := tk) old (Nat.le_succ _) (exo_ok now), rfl, h _ fr⟩
end
end Wb

set_option Elab.async false
set_option linter.all false
set_option maxRecDepth 100000
set_option maxHeartbeats 4000000
/-! Wb6: the deal that a law draws from: what is known of it, and what is kept beside it. -/
namespace Wb
open PySem PySem.Spec PyProof.Rows L2

/-- the heap without the deal's two lists -/
def off (H : Hp) (d c : Addr) : Hp := fun b => if b = d ∨ b = c then none else H b
theorem off_at {H : Hp} {d c b : Addr} (h1 : b ≠ d) (h2 : b ≠ c) : off H d c b = H b := if_neg (fun z => z.elim h1 h2)
theorem off_some {H : Hp} {d c b : Addr} {o : HO} (h : off H d c b = some o) : H b = some o ∧ b ≠ d ∧ b ≠ c := by
  unfold off at h
  by_cases e : b = d ∨ b = c
  · rw [if_pos e] at h
    cases h
  · rw [if_neg e] at h
    exact ⟨h, fun z => e (.inl z), fun z => e (.inr z)⟩
theorem off_le (H : Hp) (d c : Addr) : Same (off H d c) H := fun b o h => (off_some h).1
theorem off_mono {H H' : Hp} {d c : Addr} (h : Same H H') : Same (off H d c) (off H' d c) := by
  intro b o z
  obtain ⟨z1, z2, z3⟩ := off_some z
  rw [off_at z2 z3]
  exact h b o z1
theorem off_none {H : Hp} {d c b : Addr} (h : H b = none) : off H d c b = none := by
  unfold off
  split
  · rfl
  · exact h
/-- a new object is kept -/
theorem new_same {H : Hp} {p : Addr} {o : HO} (h : H p = none) : Same H (upd H p o) := fun b u z => by
  rw [upd_ne (ne_of_none z h)]
  exact z
theorem off_new {H : Hp} {d c p : Addr} {o : HO} (h1 : p ≠ d) (h2 : p ≠ c) : off (upd H p o) d c p = some o := by
  rw [off_at h1 h2]
  exact upd_same

/-- the deal: a list at d of the cells' list at c, and a number -/
structure Deal (H : Hp) (d c : Addr) : Prop where
  ex : ∃ (cs : List Int) (mix : Int), H d = some (.lst [.ref c, .int mix]) ∧ H c = some (.lst (cs.map V.int)) ∧ cs.length ≤ 63 ∧ (∀ z ∈ cs, 0 ≤ z) ∧ 0 ≤ mix ∧ mix < 2147483647
theorem Deal.ne {H : Hp} {d c : Addr} (D : Deal H d c) : d ≠ c := by
  obtain ⟨cs, mix, h1, h2, _⟩ := D.ex
  refine ne_of h1 h2 fun z => ?_
  have z2 : [V.ref c, V.int mix] = cs.map V.int := HO.lst.inj z
  cases cs with
  | nil => cases z2
  | cons a r => cases z2
theorem Deal.same {H H' : Hp} {d c : Addr} (D : Deal H d c) (s : Same H H') : Deal H' d c := by
  obtain ⟨cs, mix, h1, h2, h3⟩ := D.ex
  exact ⟨cs, mix, s _ _ h1, s _ _ h2, h3⟩
/-- a free address is none of the deal's -/
theorem Deal.free {H : Hp} {d c p : Addr} (D : Deal H d c) (h : H p = none) : p ≠ d ∧ p ≠ c := by
  obtain ⟨cs, mix, h1, h2, h3⟩ := D.ex
  exact ⟨(ne_of_none h1 h).symm, (ne_of_none h2 h).symm⟩
/-- the deal's own lists changed: all else is kept -/
theorem off_dc {H : Hp} {d c : Addr} {o u : HO} : off (upd (upd H c o) d u) d c = off H d c := by
  funext b
  unfold off
  by_cases e : b = d ∨ b = c
  · rw [if_pos e, if_pos e]
  · rw [if_neg e, if_neg e, upd_ne (fun z => e (.inl z)), upd_ne (fun z => e (.inr z))]
theorem off_c {H : Hp} {d c : Addr} {o : HO} : off (upd H c o) d c = off H d c := by
  funext b
  unfold off
  by_cases e : b = d ∨ b = c
  · rw [if_pos e, if_pos e]
  · rw [if_neg e, if_neg e, upd_ne (fun z => e (.inr z))]
theorem off_d {H : Hp} {d c : Addr} {o : HO} : off (upd H d o) d c = off H d c := by
  funext b
  unfold off
  by_cases e : b = d ∨ b = c
  · rw [if_pos e, if_pos e]
  · rw [if_neg e, if_neg e, upd_ne (fun z => e (.inl z))]

theorem seqT {K : PySem.W.Frag} {H H' : Hp} {a : Addr} {xs : List V} (e : Same H H') (h : SqT K H a xs) : SqT K H' a xs := by
  rcases h with (h | ⟨o, h⟩) | h
  · exact Or.inl (Or.inl (e _ _ h))
  · exact Or.inl (Or.inr ⟨o, e _ _ h⟩)
  · exact Or.inr h
/-- an item at a place drawn -/
theorem item_at {xs : List V} {r : Int} (h0 : 0 ≤ r) (h1 : r < (xs.length : Int)) : ∃ v, v ∈ xs ∧ atI xs r = some v := by
  obtain ⟨j, rfl⟩ := Int.eq_ofNat_of_zero_le h0
  have hj : j < xs.length := by omega
  exact ⟨xs[j], List.getElem_mem hj, atI_nat (List.getElem?_eq_getElem hj)⟩
theorem nil_or_last {α : Type} (l : List α) : l = [] ∨ ∃ ini z, l = ini ++ [z] := by
  cases l with
  | nil => exact .inl rfl
  | cons a r => exact .inr ⟨(a :: r).dropLast, (a :: r).getLast (by simp), (List.dropLast_concat_getLast (by simp)).symm⟩
/-- one statement and the rest, what is known between them said apart -/
theorem seqI {t1 t2 : TS} {D : Ends} {σ : L2.St} {H : Hp} (Ex : L2.St → Hp → Prop) (rest : ∀ σ' H', Ex σ' H' → t2 D σ' H')
    (first : ∀ Z : L2.St → Hp → Prop, (∀ σ' H', Ex σ' H' → Z σ' H') → t1 { D with nx := Z } σ H) : tSeq t1 t2 D σ H :=
  first _ rest
/-- a while by an invariant, a measure, and what is known at its end; what follows is asked apart -/
theorem whileI {c : TT} {tb : TS} {D : Ends} {σ : L2.St} {H : Hp} (I Ex : L2.St → Hp → Prop) (m : L2.St → Hp → Nat) (h0 : I σ H) (rest : ∀ σ H, Ex σ H → D.nx σ H)
    (step : ∀ σ H, I σ H → ∀ Y Z : Hp → Prop,
      (∀ H1, tb { D with nx := fun σ' H' => I σ' H' ∧ m σ' H' < m σ H, ct := fun σ' H' => I σ' H' ∧ m σ' H' < m σ H, bk := D.nx } σ H1 → Y H1) → (∀ H1, Ex σ H1 → Z H1) →
      c σ H fun b H1 => if b = true then Y H1 else Z H1) : tWhile c tb D σ H := by
  refine ⟨fun k σ H => k = m σ H ∧ I σ H, ⟨_, rfl, h0⟩, ?_⟩
  rintro k σ H ⟨rfl, hI⟩
  refine step σ H hI _ _ (fun H1 q => ?_) (fun H1 e => rest σ H1 e)
  exact ⟨_, fun σ' H' ⟨p', l⟩ => ⟨_, l, rfl, p'⟩, q⟩

/-- _law_any(deal, bound): some number below the bound; the deal is one again, all else is kept -/
def spAny : Sp := fun vs H Q _ => ∃ (d c : Addr) (bound : Int), vs = [.ref d, .int bound] ∧ Deal H d c ∧ 0 < bound ∧ bound < 2 ^ 300 ∧
  ∀ (r : Int) (H' : Hp), 0 ≤ r → r < bound → Deal H' d c → Same (off H d c) (off H' d c) → Q (.int r) H'
/-- _law_of(deal, some): some item of a list, of a tuple, or a sign of a text -/
def spOf (K : PySem.W.Frag) : Sp := fun vs H Q _ => ∃ (d c : Addr) (x : V), vs = [.ref d, x] ∧ Deal H d c ∧
  ((∃ (p : Addr) (xs : List V), x = .ref p ∧ SqL K (off H d c) p xs ∧ xs ≠ [] ∧ xs.length ≤ 1000 ∧ ∀ (v : V) (H' : Hp), v ∈ xs → Deal H' d c → Same (off H d c) (off H' d c) → Q v H') ∨
   (∃ (p : Addr) (xs : List V), x = .ref p ∧ SqT K (off H d c) p xs ∧ xs ≠ [] ∧ xs.length ≤ 1000 ∧ ∀ (v : V) (H' : Hp), v ∈ xs → Deal H' d c → Same (off H d c) (off H' d c) → Q v H') ∨
   (∃ z : Str, x = .str z ∧ 0 < z.length ∧ z.length ≤ 1000 ∧ ∀ (a : Nat) (H' : Hp), a ∈ z.cps.toList → Deal H' d c → Same (off H d c) (off H' d c) → Q (.str ⟨#[a]⟩) H'))
/-- _law_deal(script, base): a new deal -/
def spDeal (K : PySem.W.Frag) : Sp := fun vs H Q _ => ∃ (a : Addr) (ns : List Int) (b : Int), vs = [.ref a, .int b] ∧ SqL K H a (ns.map V.int) ∧ ns.length ≤ 63 ∧ 0 ≤ b ∧ b ≤ 1000 ∧
  ∀ (d c : Addr) (H' : Hp), H d = none → H c = none → Deal H' d c → Same H H' → Q (.ref d) H'
end Wb

set_option Elab.async false
set_option linter.all false
set_option maxRecDepth 100000
set_option maxHeartbeats 4000000
/-! Wb7: data that is all new; how large it is shown. -/
namespace Wb
open PySem PySem.Spec PyProof.Rows L2

/-- what stands in H' and was free in H -/
def nw (H H' : Hp) : Hp := fun b => if H b = none then H' b else none
theorem nw_at {H H' : Hp} {b : Addr} (h : H b = none) : nw H H' b = H' b := if_pos h
theorem nw_some {H H' : Hp} {b : Addr} {o : HO} (h : nw H H' b = some o) : H b = none ∧ H' b = some o := by
  unfold nw at h
  by_cases e : H b = none
  · rw [if_pos e] at h
    exact ⟨e, h⟩
  · rw [if_neg e] at h
    cases h
theorem nw_le (H H' : Hp) : Same (nw H H') H' := fun b o h => (nw_some h).2
/-- every address that is taken stays taken -/
def Dom (H H' : Hp) : Prop := ∀ b, H' b = none → H b = none
theorem Dom.refl (H : Hp) : Dom H H := fun _ h => h
theorem Dom.trans {H G J : Hp} (a : Dom H G) (b : Dom G J) : Dom H J := fun x h => a x (b x h)
theorem Dom.of {H H' : Hp} (s : Same H H') : Dom H H' := fun b h => s.free h
theorem Dom.deal {H H' : Hp} {d c : Addr} (s : Same (off H d c) (off H' d c)) (D : Deal H' d c) : Dom H H' := by
  intro b h
  obtain ⟨n1, n2⟩ := D.free h
  have q : off H' d c b = none := (off_at n1 n2).trans h
  have z := s.free q
  rwa [off_at n1 n2] at z
/-- new since later is new since earlier; and it is kept where all but the deal is -/
theorem nw_mono {H0 H G G' : Hp} {d c : Addr} (a : Dom H0 H) (D : Deal H d c) (s : Same (off G d c) (off G' d c)) : Same (nw H G) (nw H0 G') := by
  intro b o h
  obtain ⟨h1, h2⟩ := nw_some h
  obtain ⟨n1, n2⟩ := D.free h1
  rw [nw_at (a b h1)]
  have q := s b o (by rw [off_at n1 n2]; exact h2)
  exact (off_some q).1
theorem nw_off {H G : Hp} {d c : Addr} (D : Deal H d c) : Same (nw H G) (off G d c) := by
  intro b o h
  obtain ⟨h1, h2⟩ := nw_some h
  obtain ⟨n1, n2⟩ := D.free h1
  rw [off_at n1 n2]
  exact h2
theorem nw_upd {H G : Hp} {p : Addr} {o : HO} (h : H p ≠ none) : nw H (upd G p o) = nw H G := by
  funext b
  unfold nw
  by_cases e : H b = none
  · rw [if_pos e, if_pos e, upd_ne (fun z => h (by rw [← z]; exact e))]
  · rw [if_neg e, if_neg e]

mutual
theorem dpMono {K : PySem.W.Frag} {H H' : Hp} (s : Same H H') : ∀ (d : PyData) (v : V), Dp K H v d → Dp K H' v d
  | .none, _, h => by
    cases h
    exact .non
  | .bool b, _, h => by
    cases h
    exact .bl b
  | .int i, _, h => by
    cases h
    exact .int i
  | .str x, _, h => by
    cases h
    exact .str x
  | .list ds, _, h => by
    cases h with
    | lst h1 h2 => exact .lst (s.seq h1) (dpMonoAll s ds _ h2)
  | .tuple ds, _, h => by
    cases h with
    | tup h1 h2 => exact .tup (seqT s h1) (dpMonoAll s ds _ h2)
  | .dict _, _, h => by cases h
theorem dpMonoAll {K : PySem.W.Frag} {H H' : Hp} (s : Same H H') : ∀ (ds : List PyData) (vs : List V), DpAll K H vs ds → DpAll K H' vs ds
  | [], _, h => by
    cases h
    exact .nil
  | d :: ds, _, h => by
    cases h with
    | cons h1 h2 => exact .cons (dpMono s d _ h1) (dpMonoAll s ds _ h2)
end
theorem dpAll_snoc {K : PySem.W.Frag} {H : Hp} {v : V} {e : PyData} (h : Dp K H v e) : ∀ {vs : List V} {es : List PyData}, DpAll K H vs es → DpAll K H (vs ++ [v]) (es ++ [e])
  | _, _, .nil => .cons h .nil
  | _, _, .cons h1 h2 => .cons h1 (dpAll_snoc h h2)
theorem dpAll_len {K : PySem.W.Frag} {H : Hp} : ∀ {vs : List V} {es : List PyData}, DpAll K H vs es → vs.length = es.length
  | _, _, .nil => rfl
  | _, _, .cons _ h2 => by simp [dpAll_len h2]
theorem dpAll_mem {K : PySem.W.Frag} {H : Hp} : ∀ {vs : List V} {es : List PyData} {v : V}, DpAll K H vs es → v ∈ vs → ∃ e, e ∈ es ∧ Dp K H v e
  | _, _, _, .nil, h => nomatch h
  | _, _, v, .cons h1 h2, h => by
    rcases List.mem_cons.mp h with rfl | h
    · exact ⟨_, List.mem_cons_self, h1⟩
    · obtain ⟨e, q1, q2⟩ := dpAll_mem h2 h
      exact ⟨e, List.mem_cons_of_mem _ q1, q2⟩

/-- what may be shown: n deep, of a weight W -/
structure Tame (n W : Nat) (e : PyData) : Prop where
  shows : e.showable = true
  noDict : e.hasDict = false
  deep : e.depth ≤ n
  short : e.leavesShort 13 = true
  light : e.weight ≤ W
theorem Tame.fits {n W : Nat} {e : PyData} (t : Tame n W e) (h : W ≤ 1000000) : e.shown.length ≤ sizeLine := by
  have q := PyData.shown_le 13 (by decide) e t.short
  have l := t.light
  rw [sizeLine_eq]
  omega
theorem Tame.more {n m W Z : Nat} {e : PyData} (t : Tame n W e) (h1 : n ≤ m) (h2 : W ≤ Z) : Tame m Z e :=
  ⟨t.shows, t.noDict, Nat.le_trans t.deep h1, t.short, Nat.le_trans t.light h2⟩
structure TameAll (n W : Nat) (es : List PyData) : Prop where
  shows : PyData.showableAll es = true
  noDict : PyData.hasDictAll es = false
  deep : PyData.depthAll es ≤ n
  short : PyData.leavesShortAll 13 es = true
  light : PyData.weightAll es ≤ es.length * (W + 1)
theorem TameAll.nil {n W : Nat} : TameAll n W [] := ⟨by simp [PyData.showableAll], by simp [PyData.hasDictAll], by simp [PyData.depthAll], by simp [PyData.leavesShortAll], by simp [PyData.weightAll]⟩
theorem TameAll.cons {n W : Nat} {e : PyData} {es : List PyData} (t : Tame n W e) (h : TameAll n W es) : TameAll n W (e :: es) := by
  obtain ⟨a1, a2, a3, a4, a5⟩ := t
  obtain ⟨b1, b2, b3, b4, b5⟩ := h
  refine ⟨by simp [PyData.showableAll, a1, b1], by simp [PyData.hasDictAll, a2, b2], ?_, by simp [PyData.leavesShortAll, a4, b4], ?_⟩
  · simp only [PyData.depthAll]
    exact Nat.max_le.mpr ⟨a3, b3⟩
  · simp only [PyData.weightAll, List.length_cons, Nat.succ_mul]
    omega
theorem TameAll.of {n W : Nat} : ∀ {es : List PyData}, (∀ e ∈ es, Tame n W e) → TameAll n W es
  | [], _ => .nil
  | e :: es, h => .cons (h e List.mem_cons_self) (TameAll.of fun x hx => h x (List.mem_cons_of_mem _ hx))
theorem TameAll.list {n W k : Nat} {es : List PyData} (h : TameAll n W es) (few : es.length ≤ k) : Tame (n + 1) (k * (W + 1)) (.list es) := by
  obtain ⟨b1, b2, b3, b4, b5⟩ := h
  refine ⟨by simpa [PyData.showable] using b1, by simpa [PyData.hasDict] using b2, ?_, by simpa [PyData.leavesShort] using b4, ?_⟩
  · simp only [PyData.depth]
    omega
  · simp only [PyData.weight]
    exact Nat.le_trans b5 (Nat.mul_le_mul_right _ few)
theorem TameAll.tuple {n W k : Nat} {es : List PyData} (h : TameAll n W es) (few : es.length ≤ k) : Tame (n + 1) (k * (W + 1)) (.tuple es) := by
  obtain ⟨b1, b2, b3, b4, b5⟩ := h
  refine ⟨by simpa [PyData.showable] using b1, by simpa [PyData.hasDict] using b2, ?_, by simpa [PyData.leavesShort] using b4, ?_⟩
  · simp only [PyData.depth]
    omega
  · simp only [PyData.weight]
    exact Nat.le_trans b5 (Nat.mul_le_mul_right _ few)
theorem tame_none : Tame 0 40 .none := ⟨by decide +kernel, by decide +kernel, by decide +kernel, by decide +kernel, by decide +kernel⟩
theorem tame_bool (b : Bool) : Tame 0 40 (.bool b) := by cases b <;> exact ⟨by decide +kernel, by decide +kernel, by decide +kernel, by decide +kernel, by decide +kernel⟩
theorem log2_small {i : Int} (h : i.natAbs < 10 ^ 12) : i.natAbs.log2 ≤ 39 := by
  by_cases z : i.natAbs = 0
  · rw [z]
    decide
  · have := (Nat.log2_lt z (k := 40)).mpr (Nat.lt_trans h (by decide))
    omega
theorem tame_int {i : Int} (h : i.natAbs < 10 ^ 12) : Tame 0 40 (.int i) := by
  have l := log2_small h
  refine ⟨?_, by simp [PyData.hasDict], by simp [PyData.depth], ?_, ?_⟩
  · simp only [PyData.showable, decide_eq_true_eq]
    omega
  · simp only [PyData.leavesShort, decide_eq_true_eq]
    exact PyData.shown_int_le h
  · simp only [PyData.weight]
    split <;> omega
theorem tame_str {x : Str} (h : ∀ a ∈ x.cps.toList, a < 16 ^ 8) (few : x.length ≤ 40) : Tame 0 40 (.str x) := by
  refine ⟨by simp [PyData.showable], by simp [PyData.hasDict], by simp [PyData.depth], ?_, ?_⟩
  · simp only [PyData.leavesShort, List.all_eq_true, decide_eq_true_eq]
    exact h
  · simp only [PyData.weight]
    exact few

/-- signs glued -/
theorem glued (L : List Nat) : ∀ ys : List Str, (∀ y ∈ ys, ∃ a ∈ L, y = ⟨#[a]⟩) → (Str.join (Str.ofString "") ys).length = ys.length ∧ ∀ a ∈ (Str.join (Str.ofString "") ys).cps.toList, a ∈ L
  | [], _ => ⟨by decide, fun a ha => by
    have e : (Str.join (Str.ofString "") []).cps.toList = [] := by decide
    rw [e] at ha
    cases ha⟩
  | [y], h => by
    obtain ⟨a, ha, rfl⟩ := h y List.mem_cons_self
    refine ⟨rfl, fun b hb => ?_⟩
    have hb' : b ∈ [a] := hb
    rw [List.mem_singleton.mp hb']
    exact ha
  | y :: z :: r, h => by
    obtain ⟨a, ha, rfl⟩ := h y List.mem_cons_self
    obtain ⟨i1, i2⟩ := glued L (z :: r) fun x hx => h x (List.mem_cons_of_mem _ hx)
    have e : Str.join (Str.ofString "") (⟨#[a]⟩ :: z :: r) = (⟨#[a]⟩ ++ Str.ofString "") ++ Str.join (Str.ofString "") (z :: r) := rfl
    rw [e]
    refine ⟨?_, fun b hb => ?_⟩
    · rw [strLen_append, strLen_append, i1]
      have e1 : (Str.ofString "").length = 0 := by decide
      have e2 : (⟨#[a]⟩ : Str).length = 1 := rfl
      rw [e1, e2]
      simp
      omega
    · rw [cps_toList_append, cps_toList_append] at hb
      have e1 : (Str.ofString "").cps.toList = [] := by decide
      rw [e1, List.append_nil] at hb
      rcases List.mem_append.mp hb with q | q
      · have q' : b ∈ [a] := q
        rw [List.mem_singleton.mp q']
        exact ha
      · exact i2 b q
end Wb

set_option Elab.async false
set_option linter.all false
set_option maxRecDepth 100000
set_option maxHeartbeats 4000000
/-! Wf1: what fractions take of the language: // below 0, lcm, calls by names alone, a caught error looked at. -/
namespace Wb
open PySem PySem.Spec PyProof.Rows L2
section
variable {X : Cx}
/-- // by a divisor of either sign -/
def CDivS (_ j : Int) : Prop := j ≠ 0 ∧ j.natAbs.log2 < 9000
theorem op_fdivS : OpR X (binaryOp .FloorDiv) (rI CDivS fun i j => .int (i.fdiv j)) := opI fun i j _ _ _ _ _ hc q => floordiv_int hc.1 q (.inl (PyProof.noPylong_of_log2 hc.2))
def rLcm : List V → Hp → VK → Prop := fun vs H Q => ∃ a b : Int, vs = [.int a, .int b] ∧ a.natAbs < 2 ^ 9000 ∧ b.natAbs < 2 ^ 9000 ∧ Q (.int ((Nat.lcm a.natAbs b.natAbs : Nat) : Int)) H
theorem log_le {n k : Nat} (h : n < 2 ^ k) (h0 : 0 < k) : n.log2 < k := by
  by_cases z : n = 0
  · subst z
    rw [Nat.log2_zero]
    exact h0
  · exact (Nat.log2_lt z).mpr h
theorem cr_lcm : CallR X (.builtin "math.lcm") rLcm := by
  intro pins s σ H vs us Q I r h
  obtain ⟨a, b, rfl, ha, hb, q⟩ := h
  obtain ⟨t, u, rfl⟩ := Vals.int2 r
  have one9 : (1 : Nat) < 2 ^ 9000 := Nat.one_lt_two_pow (by decide)
  have h1 : (max 1 a.natAbs).log2 < 9000 := log_le (Nat.max_lt.mpr ⟨one9, ha⟩) (by decide)
  have h2 : (max a.natAbs b.natAbs).log2 < 9000 := log_le (Nat.max_lt.mpr ⟨ha, hb⟩) (by decide)
  have h3 : (Nat.lcm 1 a.natAbs).lcm b.natAbs = Nat.lcm a.natAbs b.natAbs := by rw [PySem.W.mc_lcm_one]
  have h4 : (Nat.lcm a.natAbs b.natAbs).log2 < 18000 := by
    refine log_le (Nat.lt_of_le_of_lt (PySem.W.mc_lcm_le _ _) ?_) (by decide)
    have e : (18000 : Nat) = 9000 + 9000 := rfl
    rw [e, Nat.pow_add]
    exact Nat.mul_lt_mul'' ha hb
  have h5 : ((((Nat.lcm 1 a.natAbs).lcm b.natAbs : Nat) : Int)).natAbs.log2 < bitsLine := by
    rw [h3, Int.natAbs_natCast]
    exact Nat.lt_trans h4 (by decide)
  refine call_function_meets PySem.W.MGF.kind_lcm PySem.W.MGF.plain_lcm PySem.W.MGF.entry_lcm (PySem.W.MGF.args_lcm _ _) (PySem.W.mg_run_lcm a t b u (by omega) (by omega) h5).meets ?_
  rw [h3]
  exact ⟨.int _, H, I.tok _, ⟨_, rfl⟩, q⟩
end
section
variable {X : Cx} {CX : CXT} {k : Nat} {f C : Addr} {fd : FuncData} {ps ks : List Str} {sp : Sp} {E : XK} {x m : Str} {p pos apos kpos : Pos} {e o : Expr} {es : List Expr} {kws : List Keyword} {te ta : TE} {t tk : TA} {nm : Option Str}
variable {g : List Value → List Value → List Value} {gV : List V → List V → List V}
def tCallK0 (sp : Sp) (gV : List V → List V → List V) (E : XK) (tk : TA) : TE := fun σ H Q => tk σ H fun zs H2 => sp (gV [] zs) H2 Q E
/-- f(k = v, ..), nothing by position -/
theorem pe_callK0 (F : FnOk X.prog X.w X.K X.mg X.base CX k f fd ps sp) (hr : Room k X.A) (hg : Gl X x) (hm : X.mg x = some (.ref f)) (hk : PySem.W.keepIn X.K (.ref f) = true) (hb : KBinds X.K fd ps ks g gV) (hx : Passes CX X E)
    (hkw : PK X kws tk) (hall : (backToKw pos (keywordEach kws X.env)).all (·.1.isSome) = true := by rfl) (hks : (backToKw pos (keywordEach kws X.env)).filterMap (·.1) = ks := by rfl)
    (hdb : (x == ("__debug__" : Str)) = false := by decide) (hpl : ((backTo pos (starEach [] X.env)).any (·.1) || (backToKw pos (keywordEach kws X.env)).any (·.1.isNone)) = false := by rfl) :
    PE X (.Call (.Name x p) [] kws pos) (tCallK0 sp gV E tk) := by
  refine ⟨fun pins s σ H Q I h => ?_⟩
  refine wpAny_Call_Name_kw (ld_glob I hg hm ?_ hdb)
  refine PySem.W.callWith_KW0 (h₀ := X.base) I.ok.mod.kin hk hall (thn (hkw.run pos pins s σ H _ I h) fun ws s2 ⟨zs, H2, I2, rz, q2⟩ => ⟨I2.kIn, ?_⟩) hpl
  rw [hks]
  exact run_fnk (us := []) (vs := []) F hr hb hx I2 .nil rz q2
end
/-- a def that may raise, where it doesn't -/
theorem quiet {P : Program} {w : World} {K : PySem.W.Frag} {mg : Str → Option Value} {base : Heap} {k : Nat} {f : Addr} {fd : FuncData} {ps : List Str} {sp : Sp} (F : FnOk P w K mg base (L2.CX P w) k f fd ps sp) :
    FnOk P w K mg base CX0 k f fd ps (fun vs H Q _ => sp vs H Q (fun _ _ _ => False)) :=
  ⟨fun vs H Q E h => F.len vs H Q _ h, fun A outer s H args us vs Q E hr he hb hv hs => by
    refine codeAny_mono (F.run A outer s H args us vs Q (fun _ _ _ => False) hr he hb hv hs) ?_
    intro r s' h
    match r, h with
    | .ok (.ret u), h => exact h
    | .error er, h =>
      obtain ⟨a, B, H', cls, d, _, _, _, _, _, _, _, z⟩ := h
      exact z.elim⟩
section
variable {X : Cx} {e : Expr} {te : TE} {pos : Pos} {a : Addr} {oe : Obj} {cls : Value} {d : Option Addr} {pn : List (Addr × Obj)} {f : Str}
theorem xd_at {P : Program} {w : World} {H : Hp} {h : Heap} {dd : Addr} {fs : List (Str × V)} (hok : HOk P w H h) (ea : H dd = some (.xd fs)) : ∃ mA, h.Ns1 dd mA ∧ ∀ g, RelO (fs.lookup g) (mA g) := by
  have hx : ObjOk P w H h dd (.xd fs) := hok dd _ ea
  obtain ⟨mA, hns, hr⟩ := hx
  exact ⟨mA, hns, hr⟩
/-- e.f, e the error that the suite holds -/
def tErrF (K : PySem.W.Frag) (a : Addr) (cls : Value) (d : Option Addr) (f : Str) (te : TE) : TE := fun σ H Q => te σ H fun x H1 => x = .ref a ∧ ∃ (C dd : Addr) (v : V), cls = .ref C ∧ d = some dd ∧ ErrC K C ∧ PySem.W.findIn K (.ref C) f = some none ∧ H1 dd = some (.xd [(f, v)]) ∧ Q v H1
theorem pe_errF (hz : Zc cls d oe) (hf : ∃ vs, oe.data = .fields vs) (he : PE (X.suite a ((a, oe) :: pn)) e te) (hb : attributeBase e f X.env (eval e X.env) = eval e X.env := by rfl) :
    PE (X.suite a ((a, oe) :: pn)) (.Attribute e f pos) (tErrF X.K a cls d f te) := by
  refine ⟨fun pins s σ H Q I h => ?_⟩
  refine attr_of hb (thn (he.run pins s σ H _ I h) fun u s1 hh => ?_)
  obtain ⟨x, H1, I1, rx, ex, C, dd, v, ec, ed, T, no, ea, q⟩ := hh
  subst ex
  obtain rfl : u = Value.ref a := rx
  subst ec
  subst ed
  obtain ⟨ha, _⟩ := I1.pin (a, oe) (List.mem_append_left _ List.mem_cons_self)
  obtain ⟨vs, hd⟩ := hf
  obtain ⟨mA, hns, hr⟩ := xd_at I1.hok ea
  obtain ⟨od, ho, hl⟩ := lookIn_ns hns
  have l : List.lookup f [(f, v)] = some v := by simp [List.lookup]
  obtain ⟨u, hu, ru⟩ := RelO.some_of (v := v) (o := mA f) (by rw [← l]; exact hr f)
  have J : PySem.W.InstAt s1.heap a oe C (some od) := ⟨ha, hz.1, by unfold PySem.W.notCls; rw [hd] <;> rfl, by rw [hz.2]; exact ho⟩
  exact HandSPX.exc_get I1.kIn J T.ga T.gg T.exc (PySem.W.findObj_own T.hd no rfl (by rw [hl, hu])) (handed_of ru) ⟨v, H1, I1.tok _, ru, q⟩
/-- isinstance(e, ..), e the error that the suite holds -/
def rIsX (K : PySem.W.Frag) (a : Addr) (cls : Value) (d : Option Addr) : List V → Hp → VK → Prop := fun xs H Q =>
  ∃ (C : Addr) (c : V) (cu : Value) (b : Bool), xs = [.ref a, c] ∧ cls = .ref C ∧ (∀ dd, d = some dd → ∃ fs, H dd = some (.xd fs)) ∧ ErrC K C ∧ ClsV c cu ∧ PySem.W.kitOne K (.ref C) cu = some b ∧ Q (.bl b) H
theorem call_isX (hz : Zc cls d oe) (hf : ∃ vs, oe.data = .fields vs) : CallR (X.suite a ((a, oe) :: pn)) (.builtin "isinstance") (rIsX X.K a cls d) := by
  intro pins s σ H xs us Q I r h
  obtain ⟨C, c, cu, b, rfl, ec, hod, T, kc, ek, q⟩ := h
  obtain ⟨u1, u2, rfl, r1, r2⟩ := vals2 r
  obtain rfl : u1 = Value.ref a := r1
  have e2 := kc.eq r2
  subst e2
  subst ec
  obtain ⟨ha, _⟩ := I.pin (a, oe) (List.mem_append_left _ List.mem_cons_self)
  obtain ⟨vs, hd⟩ := hf
  have cls : (PySem.W.clsIn X.K C).isSome = true := by
    obtain ⟨cd, hcd, _⟩ := PySem.W.any_some T.hd
    rw [hcd]
    rfl
  have fin : ∀ tk, EP (X.suite a ((a, oe) :: pn)) pins σ Q (.bool b) { s with toks := tk } := fun tk => ⟨.bl b, H, I.tok tk, rfl, q⟩
  have no : PySem.W.notCls oe = true := by unfold PySem.W.notCls; rw [hd] <;> rfl
  cases d with
  | none =>
    exact PySem.W.kia_one (PySem.W.kitx_exc (od := none) cls T.ga T.gg T.exc T.hc T.hn T.ht T.hm) I.kIn (⟨ha, hz.1, no, by rw [hz.2]; exact trivial⟩ : PySem.W.InstAt s.heap a oe C none) ek (fun z => nomatch z) fin
  | some dx =>
    obtain ⟨fs, ed⟩ := hod dx rfl
    obtain ⟨mA, hns, _⟩ := xd_at I.hok ed
    obtain ⟨od, ho, _⟩ := lookIn_ns hns
    exact PySem.W.kia_one (PySem.W.kitx_exc (od := some od) cls T.ga T.gg T.exc T.hc T.hn T.ht T.hm) I.kIn (⟨ha, hz.1, no, by rw [hz.2]; exact ho⟩ : PySem.W.InstAt s.heap a oe C (some od)) ek (fun z => nomatch z) fin
end
end Wb

set_option Elab.async false
set_option linter.all false
set_option maxRecDepth 100000
set_option maxHeartbeats 4000000
/-! Wc0: a def by its name: what may be called (Cal, CalG), the rules of its calls, how one comes to be. -/
namespace Wb
open PySem PySem.Spec PyProof.Rows L2
/-- the def's record -/
def FdOf (x : Str) (st : Stmt) (fd : FuncData) : Prop := ∃ (kV dc pm : Value) (an : Option Addr) (cd ct : Value), fd = PySem.W.fnOf x x (defArgs st) (defBody st) (defScope st) .none kV dc pm an cd ct
section
variable (P : Program) (w : World) (K : PySem.W.Frag) (mg : Str → Option Value) (base : Heap)
/-- the def of this name, promised -/
def Cal (CX : CXT) (k : Nat) (x : Str) (st : Stmt) (ps : List Str) (sp : Sp) : Prop := ∃ (f : Addr) (fd : FuncData), FnOk P w K mg base CX k f fd ps sp ∧ mg x = some (.ref f) ∧ PySem.W.keepIn K (.ref f) = true ∧ Binds K fd ps [] ∧ FdOf x st fd
/-- .. where no repr runs -/
def CalG (CX : CXT) (k : Nat) (x : Str) (st : Stmt) (ps : List Str) (sp : Sp) : Prop := ∃ (f : Addr) (fd : FuncData), FnG P w K mg base CX k f fd ps sp ∧ mg x = some (.ref f) ∧ PySem.W.keepIn K (.ref f) = true ∧ Binds K fd ps [] ∧ FdOf x st fd
/-- the def of this name as it stands in the text -/
def Def (K : PySem.W.Frag) (mg : Str → Option Value) (x : Str) (st : Stmt) (ps : List Str) : Prop := ∃ (f : Addr) (fd : FuncData), Fun K x x st f fd ∧ mg x = some (.ref f) ∧ Binds K fd ps [] ∧ FdOf x st fd
end
section
variable {P : Program} {w : World} {K : PySem.W.Frag} {mg : Str → Option Value} {base : Heap} {CX : CXT} {k : Nat} {x : Str} {N ps : List Str} {sp : Sp} {st : Stmt}
theorem Cal.G (C : Cal P w K mg base CX k x st ps sp) : CalG P w K mg base CX k x st ps sp := by
  obtain ⟨f, fd, F, m, kp, b, o⟩ := C
  exact ⟨f, fd, .of F, m, kp, b, o⟩
theorem Cal.quiet (C : Cal P w K mg base (L2.CX P w) k x st ps sp) : Cal P w K mg base CX0 k x st ps (fun vs H Q _ => sp vs H Q (fun _ _ _ => False)) := by
  obtain ⟨f, fd, F, m, kp, b, o⟩ := C
  exact ⟨f, fd, Wb.quiet F, m, kp, b, o⟩
theorem Cal.weaken {sp' : Sp} (C : Cal P w K mg base CX k x st ps sp) (h : ∀ vs H Q E, sp' vs H Q E → sp vs H Q E) : Cal P w K mg base CX k x st ps sp' := by
  obtain ⟨f, fd, F, m, kp, b, o⟩ := C
  exact ⟨f, fd, ⟨fun vs H Q E z => F.len vs H Q E (h _ _ _ _ z), fun A outer s H args us vs Q E hr he hb hv hs => F.run A outer s H args us vs Q E hr he hb hv (h _ _ _ _ hs)⟩, m, kp, b, o⟩
theorem Def.ok (D : Def K mg x st ps) (S : FnScope N ps (defScope st)) (len : ∀ vs H Q E, sp vs H Q E → vs.length = ps.length)
    (hbody : ∀ (cdv : Value) (f : Addr) (A : Around) (outer : List Env) (s : Shared) (H : Hp) (vs : List V) (Q : VK) (E : XK), Room k (A.deeper (envOfC x (defScope st) s.heap.objs.size f cdv)) → sp vs H Q E →
      ∃ t, PSs (cxOf CX0 P w K mg base N x (defScope st) f cdv A outer s H E).nox (defBody st) t ∧ t { nx := fun _ H' => Q .non H', rt := Q } (start N vs) H) : Cal P w K mg base CX0 (k + 1) x st ps sp := by
  obtain ⟨f, fd, F, m, b, o⟩ := D
  exact ⟨f, fd, F.ok S len fun cdv => hbody cdv f, m, F.kp, b, o⟩
theorem Def.okX (D : Def K mg x st ps) (S : FnScope N ps (defScope st)) (len : ∀ vs H Q E, sp vs H Q E → vs.length = ps.length)
    (hbody : ∀ (cdv : Value) (f : Addr) (A : Around) (outer : List Env) (s : Shared) (H : Hp) (vs : List V) (Q : VK) (E : XK), Room k (A.deeper (envOfC x (defScope st) s.heap.objs.size f cdv)) → sp vs H Q E →
      ∃ t, PSs (cxOf (L2.CX P w) P w K mg base N x (defScope st) f cdv A outer s H E) (defBody st) t ∧ t { nx := fun _ H' => Q .non H', rt := Q } (start N vs) H) : Cal P w K mg base (L2.CX P w) (k + 1) x st ps sp := by
  obtain ⟨f, fd, F, m, b, o⟩ := D
  exact ⟨f, fd, F.okX S len fun cdv => hbody cdv f, m, F.kp, b, o⟩
theorem Def.okG (D : Def K mg x st ps) (S : FnScope N ps (defScope st)) (len : ∀ vs H Q E, sp vs H Q E → vs.length = ps.length)
    (hbody : ∀ (cdv : Value) (f : Addr) (A : Around) (outer : List Env) (s : Shared) (H : Hp) (vs : List V) (Q : VK) (E : XK),
      (A.deeper (envOfC x (defScope st) s.heap.objs.size f cdv)).guards = some [] → Room k (A.deeper (envOfC x (defScope st) s.heap.objs.size f cdv)) → sp vs H Q E →
      ∃ t, PSs (cxOf CX P w K mg base N x (defScope st) f cdv A outer s H E) (defBody st) t ∧ t { nx := fun _ H' => Q .non H', rt := Q } (start N vs) H) : CalG P w K mg base CX (k + 1) x st ps sp := by
  obtain ⟨f, fd, F, m, b, o⟩ := D
  exact ⟨f, fd, Wb.okG F S len fun cdv => hbody cdv f, m, F.kp, b, o⟩
end
section
variable {X : Cx} {CX : CXT} {k : Nat} {ps ks : List Str} {sp : Sp} {E : XK} {x : Str} {st : Stmt} {p pos : Pos} {e : Expr} {es : List Expr} {t : TA}
theorem pe_cal (C : Cal X.prog X.w X.K X.mg X.base CX k x st ps sp) (hr : Room k X.A) (hg : Gl X x) (hx : Passes CX X E)
    (ha : PA X (e :: es) t) (hdb : (x == ("__debug__" : Str)) = false := by decide) (he : starEach (e :: es) X.env = (false, eval e X.env) :: starEach es X.env := by rfl) (hpl : (backTo pos (starEach es X.env)).any (·.1) = false := by rfl) :
    PE X (.Call (.Name x p) (e :: es) [] pos) (tCall sp [] E t) := by
  obtain ⟨f, fd, F, m, kp, b, o⟩ := C
  exact pe_call F hr hg m kp b .nil hx ha hdb he hpl
theorem pe_cal0 (C : Cal X.prog X.w X.K X.mg X.base CX k x st ps sp) (hr : Room k X.A) (hg : Gl X x) (hx : Passes CX X E) (hdb : (x == ("__debug__" : Str)) = false := by decide) : PE X (.Call (.Name x p) [] [] pos) (tCall sp [] E tNil) := by
  obtain ⟨f, fd, F, m, kp, b, o⟩ := C
  exact pe_call0 F hr hg m kp b .nil hx hdb
theorem pe_calG (C : CalG X.prog X.w X.K X.mg X.base CX k x st ps sp) (gd : X.A.guards = some []) (hr : Room k X.A) (hg : Gl X x) (hx : Passes CX X E)
    (ha : PA X (e :: es) t) (hdb : (x == ("__debug__" : Str)) = false := by decide) (he : starEach (e :: es) X.env = (false, eval e X.env) :: starEach es X.env := by rfl) (hpl : (backTo pos (starEach es X.env)).any (·.1) = false := by rfl) :
    PE X (.Call (.Name x p) (e :: es) [] pos) (tCall sp [] E t) := by
  obtain ⟨f, fd, F, m, kp, b, o⟩ := C
  exact pe_callG F gd hr hg m kp b .nil hx ha hdb he hpl
/-- a def that may raise, called where it is caught, or let out -/
theorem pe_calS {E : L2.St → XK} (C : Cal X.prog X.w X.K X.mg X.base CX k x st ps sp) (hr : Room k X.A) (hg : Gl X x) (hx : ∀ σ, PassesAt CX X σ (E σ))
    (ha : PA X (e :: es) t) (hdb : (x == ("__debug__" : Str)) = false := by decide) (he : starEach (e :: es) X.env = (false, eval e X.env) :: starEach es X.env := by rfl) (hpl : (backTo pos (starEach es X.env)).any (·.1) = false := by rfl) :
    PE X (.Call (.Name x p) (e :: es) [] pos) (tCallS sp E t) := by
  obtain ⟨f, fd, F, m, kp, b, o⟩ := C
  exact pe_callS F hr hg m kp b hx ha hdb he hpl
end
/-- f(k = v, ..): ix tells, for each parameter, the place of its keyword among those written -/
def kwV (ix : List Nat) (zs : List V) : List V := ix.map fun i => zs.getD i .non
def kwU (ix : List Nat) (zs : List Value) : List Value := ix.map fun i => zs.getD i .none
theorem kw_rel {vs : List V} {us : List Value} (r : Vals vs us) : ∀ ix : List Nat, Vals (kwV ix vs) (kwU ix us)
  | [] => .nil
  | i :: ix => by
    refine .cons ?_ (kw_rel r ix)
    have go : ∀ {vs : List V} {us : List Value}, Vals vs us → ∀ i : Nat, RelV (vs.getD i .non) (us.getD i .none) := by
      intro vs us r
      induction r with
      | nil => intro i; exact rfl
      | cons h _ ih =>
        intro i
        cases i with
        | zero => exact h
        | succ i => exact ih i
    exact go r i
/-- how the keywords of such a call bind -/
def Kw (x : Str) (st : Stmt) (ps ks : List Str) (ix : List Nat) : Prop := ix.length = ps.length ∧ ∀ (kV dc pm : Value) (an : Option Addr) (cd ct : Value) (s : Shared) (ws : List Value), ws.length = ks.length →
  BindsTo s (PySem.W.fnOf x x (defArgs st) (defBody st) (defScope st) .none kV dc pm an cd ct) ⟨[], ks.zip ws⟩ (ps.zip (kwU ix ws))
section
variable {X : Cx} {CX : CXT} {k : Nat} {ps ks : List Str} {sp : Sp} {E : XK} {x : Str} {p pos : Pos} {st : Stmt} {kws : List Keyword} {tk : TA} {ix : List Nat}
def tCalK (sp : Sp) (ix : List Nat) (n : Nat) (E : XK) (tk : TA) : TE := fun σ H Q => tk σ H fun zs H2 => zs.length = n ∧ sp (kwV ix zs) H2 Q E
theorem pe_calK (C : Cal X.prog X.w X.K X.mg X.base CX k x st ps sp) (hr : Room k X.A) (hg : Gl X x) (hx : Passes CX X E) (hb : Kw x st ps ks ix)
    (hkw : PK X kws tk) (hall : (backToKw pos (keywordEach kws X.env)).all (·.1.isSome) = true := by rfl) (hks : (backToKw pos (keywordEach kws X.env)).filterMap (·.1) = ks := by rfl)
    (hdb : (x == ("__debug__" : Str)) = false := by decide) (hpl : ((backTo pos (starEach [] X.env)).any (·.1) || (backToKw pos (keywordEach kws X.env)).any (·.1.isNone)) = false := by rfl) :
    PE X (.Call (.Name x p) [] kws pos) (tCalK sp ix ks.length E tk) := by
  obtain ⟨f, fd, F, m, kp, b, ⟨kV, dc, pm, an, cd, ct, rfl⟩⟩ := C
  refine ⟨fun pins s σ H Q I h => ?_⟩
  refine wpAny_Call_Name_kw (ld_glob I hg m ?_ hdb)
  refine PySem.W.callWith_KW0 (h₀ := X.base) I.ok.mod.kin kp hall (thn (hkw.run pos pins s σ H _ I h) fun ws s2 ⟨zs, H2, I2, rz, hl, q2⟩ => ⟨I2.kIn, ?_⟩) hpl
  rw [hks]
  have hl2 : ws.length = ks.length := by rw [← rz.length]; exact hl
  have r2 := kw_rel rz ix
  refine wpAny_call (codeAny_mono (F.run X.A X.stack s2 H2 ⟨[], ks.zip ws⟩ (kwU ix ws) (kwV ix zs) _ E hr I2.env0 (hb.2 _ _ _ _ _ _ s2 ws hl2) r2 q2) fun r s' hq => ?_)
  cases r with
  | error e => exact hx pins σ H2 s2 e s' I2 hq
  | ok fl =>
    cases fl with
    | ret u => exact I2.after hq
    | next => exact False.elim hq
    | brk => exact False.elim hq
    | cont => exact False.elim hq
theorem pe_calKG (C : CalG X.prog X.w X.K X.mg X.base CX k x st ps sp) (gd : X.A.guards = some []) (hr : Room k X.A) (hg : Gl X x) (hx : Passes CX X E) (hb : Kw x st ps ks ix)
    (hkw : PK X kws tk) (hall : (backToKw pos (keywordEach kws X.env)).all (·.1.isSome) = true := by rfl) (hks : (backToKw pos (keywordEach kws X.env)).filterMap (·.1) = ks := by rfl)
    (hdb : (x == ("__debug__" : Str)) = false := by decide) (hpl : ((backTo pos (starEach [] X.env)).any (·.1) || (backToKw pos (keywordEach kws X.env)).any (·.1.isNone)) = false := by rfl) :
    PE X (.Call (.Name x p) [] kws pos) (tCalK sp ix ks.length E tk) := by
  obtain ⟨f, fd, F, m, kp, b, ⟨kV, dc, pm, an, cd, ct, rfl⟩⟩ := C
  refine ⟨fun pins s σ H Q I h => ?_⟩
  refine wpAny_Call_Name_kw (ld_glob I hg m ?_ hdb)
  refine PySem.W.callWith_KW0 (h₀ := X.base) I.ok.mod.kin kp hall (thn (hkw.run pos pins s σ H _ I h) fun ws s2 ⟨zs, H2, I2, rz, hl, q2⟩ => ⟨I2.kIn, ?_⟩) hpl
  rw [hks]
  have hl2 : ws.length = ks.length := by rw [← rz.length]; exact hl
  have r2 := kw_rel rz ix
  refine wpAny_call (codeAny_mono (F.go X.A X.stack s2 H2 ⟨[], ks.zip ws⟩ (kwU ix ws) (kwV ix zs) _ E gd hr I2.env0 (hb.2 _ _ _ _ _ _ s2 ws hl2) r2 q2) fun r s' hq => ?_)
  cases r with
  | error e => exact hx pins σ H2 s2 e s' I2 hq
  | ok fl =>
    cases fl with
    | ret u => exact I2.after hq
    | next => exact False.elim hq
    | brk => exact False.elim hq
    | cont => exact False.elim hq
end
/-! ### what the head finds -/
/-- a def as the top has left it -/
def FnF (K : PySem.W.Frag) (nm q : Str) (st : Stmt) (f : Addr) : Prop := ∃ (oc : Value) (od : Option Addr) (kV dc pm : Value) (an : Option Addr) (cd ct : Value) (sl : Array (Option Value)),
  K.lookup f = some ⟨oc, od, .func (PySem.W.fnOf nm q (defArgs st) (defBody st) (defScope st) .none kV dc pm an cd ct), sl⟩ ∧ PySem.W.codeIn K cd q = true ∧ PySem.W.keepIn K (.ref f) = true
theorem FnF.mk2 {K : PySem.W.Frag} {nm q : Str} {st : Stmt} {f : Addr} {oc : Value} {od : Option Addr} {kV dc pm : Value} {an : Option Addr} {cd ct : Value} {sl : Array (Option Value)}
    (l : K.lookup f = some ⟨oc, od, .func (PySem.W.fnOf nm q (defArgs st) (defBody st) (defScope st) .none kV dc pm an cd ct), sl⟩) (c : PySem.W.codeIn K cd q = true) (k : PySem.W.keepIn K (.ref f) = true) : FnF K nm q st f := ⟨oc, od, kV, dc, pm, an, cd, ct, sl, l, c, k⟩
theorem FnF.def_ {K : PySem.W.Frag} {mg : Str → Option Value} {h : Heap} (X : K.In h) (G : h.Ns mainGlobals mg) {x : Str} {st : Stmt} {ps : List Str} {f : Addr} (z : PySem.W.nsIn K mainGlobals x = some (some (.ref f))) (y : FnF K x x st f)
    (b : ∀ (kV doc pm : Value) (an : Option Addr) (cdv ct : Value) (us : List Value), us.length = ps.length → bindArgs (PySem.W.fnOf x x (defArgs st) (defBody st) (defScope st) .none kV doc pm an cdv ct) ⟨us, []⟩ = pure (ps.zip us)) : Def K mg x st ps := by
  obtain ⟨oc, od, kV, dc, pm, an, cd, ct, sl, l, c, kp⟩ := y
  exact ⟨f, _, fun_mk l c kp, PySem.W.mg_of X G z, .all (b kV dc pm an cd ct), kV, dc, pm, an, cd, ct, rfl⟩
end Wb

set_option Elab.async false
set_option linter.all false
set_option maxRecDepth 100000
set_option maxHeartbeats 4000000
/-! Wc1: own exceptions by their names: what the head finds of them, how they are raised, caught, asked. -/
namespace Wb
open PySem PySem.Spec PyProof.Rows L2
section
variable {K : PySem.W.Frag}
/-- an own exception's class as the top has left it: what stands above it in its chain, and how it is made -/
def ClsRow (K : PySem.W.Frag) (C : Addr) (top : List Value) (newId : String) : Prop :=
  ∃ (nm q : Str) (N : Addr) (bs : List Value) (sn : List Str) (sub : List Value) (ab : Bool) (col : Option Bool) (dd : Option Addr) (k0 k1 k2 k3 k5 : Option Value),
    K.lookup C = some (excClassObj nm q C N bs top true sn sub ab col dd k0 k1 k2 k3 k5 newId)
structure EF (K : PySem.W.Frag) (C : Addr) (top : List Value) (newId : String) : Prop where
  row : ClsRow K C top newId
  sa : PySem.W.findIn K (.ref C) "__setattr__" = some (some (.builtin "object.__setattr__"))
  ga : PySem.W.findIn K (.ref C) "__getattribute__" = some (some (.builtin "BaseException.__getattribute__"))
  gg : PySem.W.findIn K (.ref C) "__getattr__" = some none
  exc : PySem.W.subIn K (.ref C) (.type "BaseException") = some true
  ty : PySem.W.typeIn K (.ref C) = some (.type "type")
  hd : PySem.W.hasDictIn K C = true
  kp : PySem.W.keepIn K (.ref C) = true
  hc : PySem.W.findIn K (.ref C) "__class__" = some (some (.builtin "object.__class__"))
  hm : PySem.W.mroIn K C (.type "object") = some true
theorem EF.err {C : Addr} {top : List Value} {newId B initId S : String} {bmB bmS : List Value} (e : EF K C top newId) (FB : PySem.ExcBaseFacts B newId initId bmB) (SF : PySem.StoreFacts S bmS "object.__setattr__" "object") (ch : PySem.WbE.Chain top B)
    (tl : PySem.W.excTail bmS top = true) (hn : PySem.W.specialIn K (.builtin "object.__class__") "__get__" = some (some (.builtin "getset_descriptor.__get__"))) (ht : PySem.W.takesIn K (.builtin "object.__class__") = some true) : ErrC K C := by
  obtain ⟨nm, q, N, bs, sn, sub, ab, col, dd, k0, k1, k2, k3, k5, xL⟩ := e.row
  refine ⟨⟨B, newId, initId, bmB, nm, q, N, bs, top, sn, sub, ab, col, dd, k0, k1, k2, k3, k5, FB, ch, xL⟩, ⟨S, bmS, SF, ?_⟩, e.sa, e.ga, e.gg, e.exc, e.ty, e.hd, e.kp, e.hc, hn, ht, e.hm⟩
  unfold PySem.W.excOver PySem.W.clsIn
  rw [xL]
  show (C == C && PySem.W.excTail bmS top) = true
  rw [tl]
  simp
/-- what is below what -/
structure Row (K : PySem.W.Frag) (C : Addr) (top : List Value) : Prop where
  sub : ∀ v, PySem.W.subIn K (.ref C) v = some ((Value.ref C :: top).contains v)
  cls : (PySem.W.clsIn K C).isSome = true
  ty : PySem.W.typeIn K (.ref C) = some (.type "type")
theorem EF.chain {C : Addr} {top : List Value} {newId : String} (e : EF K C top newId) : Row K C top := by
  obtain ⟨nm, q, N, bs, sn, sub, ab, col, dd, k0, k1, k2, k3, k5, xL⟩ := e.row
  refine ⟨fun v => ?_, ?_, e.ty⟩
  · show PySem.W.mroIn K C v = _
    unfold PySem.W.mroIn PySem.W.clsIn
    rw [xL]
    rfl
  · unfold PySem.W.clsIn
    rw [xL]
    rfl
theorem Row.one_ty {C : Addr} {top : List Value} {X : String} (r : Row K C top) (km : PySem.W.kitMeta X = true) : PySem.W.kitOne K (.ref C) (.type X) = some (top.contains (.type X)) := by
  unfold PySem.W.kitOne
  rw [if_neg (by simp)]
  show (if PySem.W.kitMeta X = true then PySem.W.subIn K (.ref C) (.type X) else none) = _
  rw [if_pos km, r.sub]
  simp
theorem Row.one_ref {C D : Addr} {top up : List Value} (r : Row K C top) (r2 : Row K D up) : PySem.W.kitOne K (.ref C) (.ref D) = some (decide (C = D) || top.contains (.ref D)) := by
  unfold PySem.W.kitOne
  by_cases h : C = D
  · subst h
    rw [if_pos (by simp)]
    simp
  · rw [if_neg (by simpa using h)]
    show (if ((PySem.W.clsIn K D).isSome && PySem.W.typeIn K (.ref D) == some (.type "type")) = true then PySem.W.subIn K (.ref C) (.ref D) else none) = _
    rw [r2.cls, r2.ty, if_pos (by simp), r.sub]
    have h' : ¬ D = C := fun e => h e.symm
    simp [h, h']
theorem Row.exm_ref {C D : Addr} {top up : List Value} (r : Row K C top) (r2 : Row K D up) (b : up.contains (.type "BaseException") = true) : PySem.W.exmOne K (.ref C) (.ref D) = some (decide (C = D) || top.contains (.ref D)) := by
  unfold PySem.W.exmOne
  rw [r2.sub, if_pos (by rw [List.contains_cons, b]; simp)]
  show (if ((PySem.W.clsIn K D).isSome && PySem.W.typeIn K (.ref D) == some (.type "type")) = true then PySem.W.subIn K (.ref C) (.ref D) else none) = _
  rw [r2.cls, r2.ty, if_pos (by simp), r.sub]
  by_cases h : C = D
  · subst h
    simp
  · have h' : ¬ D = C := fun e => h e.symm
    simp [h, h']
theorem Row.exm_ty {C : Addr} {top : List Value} {X : String} (r : Row K C top) (km : PySem.W.kitMeta X = true) (b : PySem.W.subIn K (.type X) (.type "BaseException") = some true) : PySem.W.exmOne K (.ref C) (.type X) = some (top.contains (.type X)) := by
  unfold PySem.W.exmOne
  rw [b, if_pos (by simp)]
  show (if PySem.W.kitMeta X = true then PySem.W.subIn K (.ref C) (.type X) else none) = _
  rw [if_pos km, r.sub]
  simp
theorem ClsRow.mk2 {C : Addr} {top : List Value} {newId : String} {nm q : Str} {N : Addr} {bs : List Value} {sn : List Str} {sub : List Value} {ab : Bool} {col : Option Bool} {dd : Option Addr} {k0 k1 k2 k3 k5 : Option Value}
    (l : K.lookup C = some (excClassObj nm q C N bs top true sn sub ab col dd k0 k1 k2 k3 k5 newId)) : ClsRow K C top newId := ⟨nm, q, N, bs, sn, sub, ab, col, dd, k0, k1, k2, k3, k5, l⟩

end
def topE (CB : Addr) : List Value := [.ref CB, .type "Exception", .type "BaseException", .type "object"]
def topK : List Value := [.type "KeyError", .type "LookupError", .type "Exception", .type "BaseException", .type "object"]
def topB : List Value := [.type "Exception", .type "BaseException", .type "object"]
section
variable (P : Program) (w : World) (K : PySem.W.Frag) (mg : Str → Option Value) (base : Heap)
/-- an own exception with one field -/
structure Err (x fld : Str) (C : Addr) (top : List Value) : Prop where
  T : ErrC K C
  g : mg x = some (.ref C)
  row : Row K C top
  no : PySem.W.findIn K (.ref C) fld = some none
  ini : ∃ (fI : Addr) (fd : FuncData), PySem.W.findIn K (.ref C) "__init__" = some (some (.ref fI)) ∧ PySem.W.typeIn K (.ref fI) = some (.type "function") ∧ FnOk P w K mg base CX0 1 fI fd ["self", fld] (spIni C fld) ∧ Binds K fd ["self", fld] []
/-- an own exception without fields -/
structure ErrB (K : PySem.W.Frag) (mg : Str → Option Value) (x : Str) (C : Addr) (top : List Value) : Prop where
  T : ErrC K C
  g : mg x = some (.ref C)
  row : Row K C top
end
section
variable {P : Program} {w : World} {K : PySem.W.Frag} {mg : Str → Option Value} {base : Heap} {x fld y g : Str} {C D B : Addr} {top : List Value}
theorem Err.exm_self (Z : Err P w K mg base x fld C top) (h : top.contains (.type "BaseException") = true) : PySem.W.exmOne K (.ref C) (.ref C) = some true := by
  rw [Z.row.exm_ref Z.row h]
  simp
theorem Err.is_self (Z : Err P w K mg base x fld C top) : PySem.W.kitOne K (.ref C) (.ref C) = some true := by
  rw [Z.row.one_ref Z.row]
  simp
theorem Err.is_base (Z : Err P w K mg base x fld C (topE B)) (ZB : ErrB K mg y B topB) : PySem.W.kitOne K (.ref C) (.ref B) = some true := by
  rw [Z.row.one_ref ZB.row]
  simp [topE]
theorem Err.isnt {up : List Value} (Z : Err P w K mg base x fld C (topE B)) (Y : Err P w K mg base y g D up) (h1 : C ≠ D) (h2 : D ≠ B) : PySem.W.kitOne K (.ref C) (.ref D) = some false := by
  rw [Z.row.one_ref Y.row]
  simp [topE, h1, h2]
end
section
variable {X : Cx} {x fld : Str} {C : Addr} {top : List Value} {k : Nat} {p pos : Pos} {e : Expr} {es : List Expr} {ta : TA}
/-- raise C(e) -/
theorem pmk_E (Z : Err X.prog X.w X.K X.mg X.base x fld C top) (hr : Room k X.A) (hk : 2 ≤ k) (hg : Gl X x) (ha : PA X (e :: es) ta) (hdb : (x == ("__debug__" : Str)) = false := by decide)
    (he : starEach (e :: es) X.env = (false, eval e X.env) :: starEach es X.env := by rfl) (hpl : (backTo pos (starEach es X.env)).any (·.1) = false := by rfl) : PMk X (.Call (.Name x p) (e :: es) [] pos) (tErrX C fld ta) := by
  obtain ⟨fI, fd, iC, tI, F1, hb⟩ := Z.ini
  exact pmk_err Z.T iC tI F1 (hr.mono hk) hb pass0 hg Z.g ha hdb he hpl
end
end Wb

set_option Elab.async false
set_option linter.all false
set_option maxRecDepth 100000
set_option maxHeartbeats 4000000
/-! Wc2: the law's own call, for a def by its name; the head's ends. -/
namespace Wb
open PySem PySem.Spec PyProof.Rows L2

/-- the law's def, promised where no repr runs, called from outside -/
theorem lawG2 {P : Program} {w : World} {K : PySem.W.Frag} {mg mb : Str → Option Value} {CX : CXT} {k : Nat} {fa a : Addr} {x : Str} {sp : Sp} {st : Shared} {vs : List Value} {ns : List Int}
    (inK : K.In st.heap) (names : st.heap.Ns mainGlobals mg) (bns : st.heap.Ns builtinsNs mb) (boot : ∀ x : Str, x ≠ "__name__" → mb x = bootBuiltins x) (lim : st.heap.NoLimit) (nogen : st.gens = #[])
    (atA : st.heap.get? a = some { cls := .type "list", data := .seq vs.toArray }) (areInts : IntsAre vs ns) (short : ns.length ≤ sizeLine) (room : Room k callerA)
    (F : ∀ base : Heap, K.In base → base.Ns mainGlobals mg → ∃ fd : FuncData, (∀ (s : Shared) (u : Value), BindsTo s fd ⟨[u], []⟩ [(x, u)]) ∧ FnG P w K mg base CX k fa fd [x] sp)
    (want : ∀ H : Hp, Only H → SqL K H a (ns.map V.int) → sp [.ref a] H (fun v _ => v = .bl true) fun _ _ _ => False)
    (noX : ∀ H e s', CX [] H st (fun _ _ _ => False) e s' → False) :
    codeAny (model P w) callerA (.call (.ref fa) ⟨[.ref a], []⟩) (fun r s' => r = .ok (.ret (.bool true)) ∧ OldK st.heap s'.heap ∧ s'.os = st.os ∧ AllBare s'.gens) st := by
  have rel := vals_ints areInts
  have same := areInts.length
  -- what is told of any abstract heap that tracks the script at most
  suffices go : ∀ H : Hp, Only H → SqL K H a (ns.map V.int) → HOk P w H st.heap → (∀ b, H b ≠ none → b = a) → (H a ≠ none → K.lookup a = none) →
      codeAny (model P w) callerA (.call (.ref fa) ⟨[.ref a], []⟩) (fun r s' => r = .ok (.ret (.bool true)) ∧ OldK st.heap s'.heap ∧ s'.os = st.os ∧ AllBare s'.gens) st by
    rcases own : K.lookup a with _ | ob
    · -- the script is tracked, as a thing that stands still
      let frozen : HO := .frz { cls := .type "list", data := .seq vs.toArray } (.lst (ns.map V.int))
      refine go (fun b => if b = a then some frozen else none) ?_ ?_ ?_ ?_ (fun _ => own)
      · intro b
        by_cases e : b = a
        · exact Or.inr ⟨_, _, if_pos e⟩
        · exact Or.inl (if_neg e)
      · exact Or.inl (Or.inr ⟨_, if_pos rfl⟩)
      · intro b u e
        by_cases h : b = a
        · subst h
          cases (if_pos rfl).symm.trans e
          exact ⟨atA, by simpa using short, vs, _, rel, atA⟩
        · cases (if_neg h).symm.trans e
      · intro b e
        by_cases h : b = a
        · exact h
        · exact absurd (if_neg h) e
    · -- the script is one of the module's own objects
      have there := inK a ob own
      rw [atA] at there
      cases there
      refine go (fun _ => none) (fun _ => Or.inl rfl) ?_ (fun b u e => ?_) (fun b e => absurd rfl e) (fun e => absurd rfl e)
      · exact Or.inr ⟨_, vs.toArray, _, own, rfl, rfl, rfl, by rw [List.size_toArray, same]; exact short, by simpa using rel⟩
      · have e' : (none : Option HO) = some u := e
        cases e'
  intro H only seq ok just notK
  have keepB : ∀ {b : Addr} {o : Obj}, st.heap.get? b = some o → H b = none → (hidT st.heap H).get? b = some o := fun e n => hidT_get e n
  have dictFree : ∀ {b : Addr} {o : Obj} {es : Array DictEntry} {ep : Nat}, st.heap.get? b = some o → o.data = .dict es ep → H b = none := by
    intro b o es ep e d
    by_cases q : H b = none
    · exact q
    · have h := just b q
      subst h
      rw [atA] at e
      cases e
      have d' : Data.seq vs.toArray _ = Data.dict es ep := d
      cases d'
  have nsIn : ∀ {b : Addr} {m : Str → Option Value}, st.heap.Ns b m → (hidT st.heap H).Ns b m := by
    rintro b m ⟨o, es, ep, e, d, r⟩
    exact ⟨o, es, ep, keepB e (dictFree e d), d, r⟩
  have inBase : K.In (hidT st.heap H) := by
    intro b o e
    refine keepB (inK b o e) ?_
    by_cases q : H b = none
    · exact q
    · have h := just b q
      subst h
      rw [notK q] at e
      cases e
  have md : Mod K mg (hidT st.heap H) := by
    obtain ⟨mc, l1, l2⟩ := lim
    exact ⟨inBase, nsIn names, ⟨mb, nsIn bns, boot⟩, ⟨mc, nsIn l1, l2⟩⟩
  have env0 : Env0 P w K mg (hidT st.heap H) callerA [] st H :=
    ⟨rfl, md, fun b o e => of_hidT e, Nat.le_of_eq (hidT_size _ _), trivial, fun b hb => absurd (show b ∈ ([] : List Addr) from hb) (by simp), ok, .of_eq nogen⟩
  obtain ⟨fd, bind1, FF⟩ := F _ inBase (nsIn names)
  have ran := FF.go callerA [] st H ⟨[.ref a], []⟩ [.ref a] [.ref a] _ _ rfl room env0 (bind1 st (.ref a)) (.cons rfl .nil) (want H only seq)
  refine codeAny_mono ran ?_
  intro r s' h
  match r, h with
  | .error e, h => exact (noX H e s' h).elim
  | .ok (.ret u), h =>
    obtain ⟨v, H', os, bare, un, ok', rv, q⟩ := h
    have q' : v = .bl true := q
    subst q'
    obtain rfl : u = Value.bool true := rv
    refine ⟨rfl, OldK.of_keep ?_, os, bare⟩
    intro b o e
    by_cases q : H b = none
    · exact un.keep b o e q (fun z => absurd (show b ∈ ([] : List Addr) from z) (by simp)) (by simp)
    · rcases only b with z | ⟨ob, xs, z⟩
      · exact absurd z q
      · obtain ⟨e1, _⟩ := ok b _ z
        obtain ⟨e2, _⟩ := ok' b _ (un.frzs b ob _ z)
        rw [e] at e1
        cases e1
        exact e2

/-- the goal that the head leaves, from such a promise of the law's def -/
theorem walkG2 {l : PySem.W.OpenLaw} {n k : Nat} {q : Program} {loose : List Str} {XP : (Str → Option Value) → Heap → Prop} {YP : World → Heap → Prop} {d : DefRec} {K : Params → PySem.W.Frag} {CX : World → CXT} {sp : World → Sp} {x : Str}
    (h1 : l.most = some n) (h2 : n ≤ sizeLine) (h3 : d.params.defaults = []) (room : Room k callerA) (hY : ∀ (w : World) (h : Heap), YP w h → (K w.params).In h)
    (F : ∀ (w : World) (mg : Str → Option Value) (fa : Addr) (h : Heap), (K w.params).In h → h.Ns mainGlobals mg → mg d.name = some (.ref fa) →
      ∀ base : Heap, (K w.params).In base → base.Ns mainGlobals mg → ∃ fd : FuncData, (∀ (s : Shared) (u : Value), BindsTo s fd ⟨[u], []⟩ [(x, u)]) ∧ FnG l.prog w (K w.params) mg base (CX w) k fa fd [x] (sp w))
    (want : ∀ (w : World) (H : Hp) (a : Addr) (ns : List Int), ns.length ≤ n → Only H → SqL (K w.params) H a (ns.map V.int) → sp w [.ref a] H (fun v _ => v = .bl true) fun _ _ _ => False)
    (noX : ∀ (w : World) (H : Hp) (s : Shared) (e : Value) (s' : Shared), CX w [] H s (fun _ _ _ => False) e s' → False) :
    PySem.W.WalkO q loose XP YP l.row.toRowW d [] (fun f vs => PySem.call f vs) := by
  apply Att.attach_call h1 h3
  intro w s₀ s₁ mg mb fa o pm cd doc a vs ns G Y ho hd hcd hmg hobj hints hlen hg
  have inK := hY w _ Y
  have hF := F w mg fa _ inK G.T.g hmg
  exact lawG2 inK G.T.g G.T.b G.T.builtins G.T.nolimit hg hobj hints (Nat.le_trans hlen h2) room hF (fun H hO hS => want w H a ns hlen hO hS) fun H e s' => noX w H s₁ e s'
theorem FnF.fn {K : PySem.W.Frag} {nm q : Str} {st : Stmt} {f : Addr} (h : FnF K nm q st f) : ∃ (kV dc pm : Value) (an : Option Addr) (cd ct : Value), Fun K nm q st f (PySem.W.fnOf nm q (defArgs st) (defBody st) (defScope st) .none kV dc pm an cd ct) := by
  obtain ⟨oc, od, kV, dc, pm, an, cd, ct, sl, l, c, k⟩ := h
  exact ⟨kV, dc, pm, an, cd, ct, fun_mk l c k⟩
/-- what the head needs of the law -/
theorem CalG.law {P : Program} {w : World} {K : PySem.W.Frag} {mg : Str → Option Value} {base : Heap} {k : Nat} {st : Stmt} {sp : Sp} {fa : Addr} (C : CalG P w K mg base CX0 k "law" st ["script"] sp) (hfa : mg "law" = some (.ref fa))
    (hb : ∀ (kV dc pm : Value) (an : Option Addr) (cd ct : Value) (s : Shared) (u : Value), BindsTo s (PySem.W.fnOf "law" "law" (defArgs st) (defBody st) (defScope st) .none kV dc pm an cd ct) ⟨[u], []⟩ [("script", u)]) :
    ∃ fd : FuncData, (∀ (s : Shared) (u : Value), BindsTo s fd ⟨[u], []⟩ [("script", u)]) ∧ FnG P w K mg base CX0 k fa fd ["script"] sp := by
  obtain ⟨f, fd, F, m, _, _, kV, dc, pm, an, cd, ct, rfl⟩ := C
  have e := m.symm.trans hfa
  cases e
  exact ⟨_, hb kV dc pm an cd ct, F⟩
/-- the law of a script -/
def spLaw (K : PySem.W.Frag) : Sp := fun vs H Q _ => ∃ (a : Addr) (ns : List Int), vs = [.ref a] ∧ SqL K H a (ns.map V.int) ∧ ns.length ≤ 63 ∧ ∀ H', Q (.bl true) H'
theorem walk2 {l : PySem.W.OpenLaw} {q : Program} {loose : List Str} {XP : (Str → Option Value) → Heap → Prop} {YP : World → Heap → Prop} {d : DefRec} {K : Params → PySem.W.Frag} {k : Nat} (room : Room k callerA) (hn : l.most = some 63) (hdf : d.params.defaults = [])
    (hY : ∀ (w : World) (h : Heap), YP w h → (K w.params).In h)
    (F : ∀ (w : World) (mg : Str → Option Value) (fa : Addr) (h : Heap), (K w.params).In h → h.Ns mainGlobals mg → mg d.name = some (.ref fa) →
      ∀ base : Heap, (K w.params).In base → base.Ns mainGlobals mg → ∃ fd : FuncData, (∀ (s : Shared) (u : Value), BindsTo s fd ⟨[u], []⟩ [("script", u)]) ∧ FnG l.prog w (K w.params) mg base CX0 k fa fd ["script"] (spLaw (K w.params))) :
    PySem.W.WalkO q loose XP YP l.row.toRowW d [] (fun f vs => PySem.call f vs) :=
  walkG2 (n := 63) (k := k) (x := "script") (CX := fun _ => CX0) (sp := fun w => spLaw (K w.params)) hn (by decide) hdf room hY F (fun _ _ a ns hl _ hS => ⟨a, ns, rfl, hS, hl, fun _ => rfl⟩) fun _ _ _ _ _ z => z
/-- a written tuple of ints -/
theorem tup_of {K : PySem.W.Frag} {a : Addr} {od : Option Addr} {its : Array Value} {n : Nat} {sl : Array (Option Value)} {xs : List V} (l : K.lookup a = some ⟨.type "tuple", od, .seq its n, sl⟩) (hz : its.size ≤ sizeLine) (r : Vals xs its.toList) : ∀ H, SqT K H a xs :=
  fun H => .inr ⟨_, its, n, l, rfl, rfl, hz, r⟩
end Wb

set_option Elab.async false
set_option linter.all false
set_option maxRecDepth 100000
set_option maxHeartbeats 4000000
/-! Wd0: what may be shown, ints of some hundred figures among it. -/
namespace Wb
open PySem PySem.Spec PyProof.Rows L2
/-- what repr asks of data -/
def Shw (d : PyData) : Prop := d.showable = true ∧ d.hasDict = false ∧ d.depth ≤ 60 ∧ d.shown.length ≤ sizeLine
structure Tb (n W : Nat) (e : PyData) : Prop where
  shows : e.showable = true
  noDict : e.hasDict = false
  deep : e.depth ≤ n
  short : e.leavesShort 2000 = true
  light : e.bulk ≤ W
structure TbAll (n W : Nat) (es : List PyData) : Prop where
  shows : PyData.showableAll es = true
  noDict : PyData.hasDictAll es = false
  deep : PyData.depthAll es ≤ n
  short : PyData.leavesShortAll 2000 es = true
  light : PyData.bulkAll es ≤ W
theorem Tb.shw {n W : Nat} {e : PyData} (t : Tb n W e) (h : n ≤ 60 := by decide) (hw : W ≤ 8000 := by decide) : Shw e := by
  refine ⟨t.shows, t.noDict, Nat.le_trans t.deep h, ?_⟩
  have q := PyData.shown_le_bulk 2000 (by decide) e t.short
  have l := t.light
  rw [sizeLine_eq]
  omega
theorem Tb.more {n m W Z : Nat} {e : PyData} (t : Tb n W e) (h1 : n ≤ m) (h2 : W ≤ Z) : Tb m Z e :=
  ⟨t.shows, t.noDict, Nat.le_trans t.deep h1, t.short, Nat.le_trans t.light h2⟩
theorem TbAll.nil {n : Nat} : TbAll n 0 [] := ⟨by simp [PyData.showableAll], by simp [PyData.hasDictAll], by simp [PyData.depthAll], by simp [PyData.leavesShortAll], by simp [PyData.bulkAll]⟩
theorem TbAll.cons {n V W : Nat} {e : PyData} {es : List PyData} (t : Tb n V e) (h : TbAll n W es) : TbAll n (V + 1 + W) (e :: es) := by
  obtain ⟨a1, a2, a3, a4, a5⟩ := t
  obtain ⟨b1, b2, b3, b4, b5⟩ := h
  refine ⟨by simp [PyData.showableAll, a1, b1], by simp [PyData.hasDictAll, a2, b2], ?_, by simp [PyData.leavesShortAll, a4, b4], ?_⟩
  · simp only [PyData.depthAll]
    exact Nat.max_le.mpr ⟨a3, b3⟩
  · simp only [PyData.bulkAll]
    omega
theorem TbAll.of {n W : Nat} : ∀ {es : List PyData}, (∀ e ∈ es, Tb n W e) → TbAll n (es.length * (W + 1)) es
  | [], _ => by
    have := TbAll.nil (n := n)
    simpa using this
  | e :: es, h => by
    have a := TbAll.cons (h e List.mem_cons_self) (TbAll.of fun x hx => h x (List.mem_cons_of_mem _ hx))
    have q : (e :: es).length * (W + 1) = W + 1 + es.length * (W + 1) := by
      rw [List.length_cons, Nat.succ_mul]
      omega
    rw [q]
    exact a
theorem TbAll.more {n m W Z : Nat} {es : List PyData} (t : TbAll n W es) (h1 : n ≤ m) (h2 : W ≤ Z) : TbAll m Z es :=
  ⟨t.shows, t.noDict, Nat.le_trans t.deep h1, t.short, Nat.le_trans t.light h2⟩
theorem TbAll.list {n W : Nat} {es : List PyData} (h : TbAll n W es) : Tb (n + 1) W (.list es) := by
  obtain ⟨b1, b2, b3, b4, b5⟩ := h
  refine ⟨by simpa [PyData.showable] using b1, by simpa [PyData.hasDict] using b2, ?_, by simpa [PyData.leavesShort] using b4, by simpa [PyData.bulk] using b5⟩
  simp only [PyData.depth]
  omega
theorem TbAll.tuple {n W : Nat} {es : List PyData} (h : TbAll n W es) : Tb (n + 1) W (.tuple es) := by
  obtain ⟨b1, b2, b3, b4, b5⟩ := h
  refine ⟨by simpa [PyData.showable] using b1, by simpa [PyData.hasDict] using b2, ?_, by simpa [PyData.leavesShort] using b4, by simpa [PyData.bulk] using b5⟩
  simp only [PyData.depth]
  omega
theorem tb_none : Tb 0 0 .none := ⟨by decide +kernel, by decide +kernel, by decide +kernel, by decide +kernel, by decide +kernel⟩
theorem tb_bool (b : Bool) : Tb 0 0 (.bool b) := by cases b <;> exact ⟨by decide +kernel, by decide +kernel, by decide +kernel, by decide +kernel, by decide +kernel⟩
theorem tb_int {i : Int} (h : i.natAbs < 2 ^ 1900) : Tb 0 0 (.int i) := by
  have l : i.natAbs.log2 < 1900 := log_le h (by decide)
  refine ⟨?_, by simp [PyData.hasDict], by simp [PyData.depth], ?_, by simp [PyData.bulk]⟩
  · simp only [PyData.showable, decide_eq_true_eq]
    omega
  · simp only [PyData.leavesShort, decide_eq_true_eq]
    have := int_text_length_le (a := i) (by decide) l
    show (Str.ofString (toString i)).length ≤ 2000
    have e : (Str.ofString (toString i)).length = (toString i).length := by
      rw [Str.ofString_eq_toList]
      simp [Str.length]
      exact String.length_toList
    rw [e]
    omega
theorem tb_str {x : Str} {n : Nat} (h : ∀ a ∈ x.cps.toList, a < 16 ^ 8) (few : x.length ≤ n) : Tb 0 n (.str x) := by
  refine ⟨by simp [PyData.showable], by simp [PyData.hasDict], by simp [PyData.depth], ?_, ?_⟩
  · simp only [PyData.leavesShort, List.all_eq_true, decide_eq_true_eq]
    exact h
  · simp only [PyData.bulk]
    exact few
end Wb

set_option Elab.async false
set_option linter.all false
set_option maxRecDepth 100000
set_option maxHeartbeats 4000000
/-! Wv0: what an expression is worth, told apart from what may change: a base heap that only grows, values by relations. -/
namespace Wv
open PySem PySem.Spec PyProof.Rows L2 Wb

/-- a base within a heap, and both later: nothing hidden comes into the base -/
structure Ext (B H B' H' : Hp) : Prop where
  hh : Same H H'
  bb : Same B B'
  bh : Same B' H'
  nw : ∀ b, H b ≠ none → B b = none → B' b = none
theorem Ext.refl {B H : Hp} (s : Same B H) : Ext B H B H := ⟨Same.refl _, Same.refl _, s, fun _ _ h => h⟩
theorem Ext.trans {B H B1 H1 B2 H2 : Hp} (a : Ext B H B1 H1) (b : Ext B1 H1 B2 H2) : Ext B H B2 H2 :=
  ⟨a.hh.trans b.hh, a.bb.trans b.bb, b.bh, fun x h1 h2 => by
    refine b.nw x ?_ (a.nw x h1 h2)
    cases e : H x with
    | none => exact absurd e h1
    | some o =>
      rw [a.hh x o e]
      exact fun z => nomatch z⟩
/-- a new object, in the base too -/
theorem Ext.new {B H : Hp} {p : Addr} {o : HO} (s : Same B H) (h : H p = none) : Ext B H (upd B p o) (upd H p o) :=
  ⟨new_same h, new_same (s.free h), fun b u z => by
    by_cases e : b = p
    · subst e
      rw [upd_same] at *
      exact z
    · rw [upd_ne e] at *
      exact s b u z, fun b h1 h2 => by
    have e : b ≠ p := fun e => h1 (by rw [e]; exact h)
    rw [upd_ne e]
    exact h2⟩
/-- .. of the heap alone -/
theorem Ext.own {B H : Hp} {p : Addr} {o : HO} (s : Same B H) (h : H p = none) : Ext B H B (upd H p o) :=
  ⟨new_same h, Same.refl _, s.trans (new_same h), fun _ _ h => h⟩

/-! ### relations -/
abbrev Rel := Hp → V → Prop
class Mo (R : Rel) : Prop where
  mo : ∀ {B B' : Hp} {v : V}, Same B B' → R B v → R B' v
def dat (K : PySem.W.Frag) (d : PyData) : Rel := fun B v => Dp K B v d
instance {K : PySem.W.Frag} {d : PyData} : Mo (dat K d) := ⟨fun s h => dpMono s d _ h⟩
def AllR : List Rel → Hp → List V → Prop
  | [], _, vs => vs = []
  | R :: Rs, B, vs => ∃ v r, vs = v :: r ∧ R B v ∧ AllR Rs B r
class MoA (Rs : List Rel) : Prop where
  mo : ∀ {B B' : Hp} {vs : List V}, Same B B' → AllR Rs B vs → AllR Rs B' vs
instance : MoA [] := ⟨fun _ h => h⟩
instance {R : Rel} {Rs : List Rel} [m : Mo R] [t : MoA Rs] : MoA (R :: Rs) := ⟨fun s ⟨v, r, e, h, g⟩ => ⟨v, r, e, m.mo s h, t.mo s g⟩⟩
theorem moA_of {Rs : List Rel} (h : ∀ R ∈ Rs, Mo R) : MoA Rs := by
  induction Rs with
  | nil => exact inferInstance
  | cons R Rs ih =>
    have := h R List.mem_cons_self
    have := ih fun R hR => h R (List.mem_cons_of_mem _ hR)
    exact inferInstance
instance {K : PySem.W.Frag} {ds : List PyData} : MoA (ds.map (dat K)) := moA_of fun R h => by
  obtain ⟨d, _, rfl⟩ := List.mem_map.mp h
  exact inferInstance
theorem allR_dp {K : PySem.W.Frag} {B : Hp} : ∀ {ds : List PyData} {vs : List V}, AllR (ds.map (dat K)) B vs → DpAll K B vs ds
  | [], _, h => by
    have h : _ = [] := h
    subst h
    exact .nil
  | d :: ds, _, h => by
    obtain ⟨v, r, rfl, h1, h2⟩ := h
    exact .cons h1 (allR_dp h2)
theorem dp_allR {K : PySem.W.Frag} {B : Hp} : ∀ {ds : List PyData} {vs : List V}, DpAll K B vs ds → AllR (ds.map (dat K)) B vs
  | _, _, .nil => rfl
  | _, _, .cons h t => ⟨_, _, rfl, h, dp_allR t⟩
theorem allR_len {B : Hp} : ∀ {Rs : List Rel} {vs : List V}, AllR Rs B vs → vs.length = Rs.length
  | [], _, h => by
    have h : _ = [] := h
    subst h
    rfl
  | R :: Rs, _, h => by
    obtain ⟨v, r, rfl, _, h2⟩ := h
    simp [allR_len h2]
theorem allR_at {B : Hp} : ∀ {Rs : List Rel} {vs : List V} {i : Nat} {v : V}, AllR Rs B vs → vs[i]? = some v → ∃ R, Rs[i]? = some R ∧ R B v
  | [], _, _, _, h, z => by
    have h : _ = [] := h
    subst h
    cases z
  | R :: Rs, _, 0, _, h, z => by
    obtain ⟨v, r, rfl, h1, _⟩ := h
    cases z
    exact ⟨R, rfl, h1⟩
  | R :: Rs, _, i + 1, _, h, z => by
    obtain ⟨v, r, rfl, _, h2⟩ := h
    exact allR_at (i := i) h2 z
theorem allR_of {B : Hp} : ∀ {Rs : List Rel} {vs : List V} {i : Nat} {R : Rel}, AllR Rs B vs → Rs[i]? = some R → ∃ v, vs[i]? = some v ∧ R B v
  | R :: Rs, _, 0, _, h, z => by
    obtain ⟨v, r, rfl, h1, _⟩ := h
    cases z
    exact ⟨v, rfl, h1⟩
  | R :: Rs, _, i + 1, _, h, z => by
    obtain ⟨v, r, rfl, _, h2⟩ := h
    exact allR_of (i := i) h2 z
theorem allR_app {B : Hp} : ∀ {Rs Ss : List Rel} {vs ws : List V}, AllR Rs B vs → AllR Ss B ws → AllR (Rs ++ Ss) B (vs ++ ws)
  | [], _, _, _, h, g => by
    have h : _ = [] := h
    subst h
    exact g
  | R :: Rs, _, _, _, h, g => by
    obtain ⟨v, r, rfl, h1, h2⟩ := h
    exact ⟨v, r ++ _, rfl, h1, allR_app h2 g⟩
theorem allR_snoc {B : Hp} {R : Rel} {Rs : List Rel} {vs : List V} {v : V} (h : AllR Rs B vs) (g : R B v) : AllR (Rs ++ [R]) B (vs ++ [v]) := allR_app h ⟨v, [], rfl, g, rfl⟩
/-- a list, a tuple of such -/
def lstR (K : PySem.W.Frag) (Rs : List Rel) : Rel := fun B v => ∃ a xs, v = .ref a ∧ SqL K B a xs ∧ AllR Rs B xs
def tupR (K : PySem.W.Frag) (Rs : List Rel) : Rel := fun B v => ∃ a xs, v = .ref a ∧ SqT K B a xs ∧ AllR Rs B xs
instance {K : PySem.W.Frag} {Rs : List Rel} [m : MoA Rs] : Mo (lstR K Rs) := ⟨fun s ⟨a, xs, e, h, g⟩ => ⟨a, xs, e, s.seq h, m.mo s g⟩⟩
instance {K : PySem.W.Frag} {Rs : List Rel} [m : MoA Rs] : Mo (tupR K Rs) := ⟨fun s ⟨a, xs, e, h, g⟩ => ⟨a, xs, e, seqT s h, m.mo s g⟩⟩
theorem lstR_dat {K : PySem.W.Frag} {ds : List PyData} {B : Hp} {v : V} (h : lstR K (ds.map (dat K)) B v) : dat K (.list ds) B v := by
  obtain ⟨a, xs, rfl, h, g⟩ := h
  exact .lst h (allR_dp g)
theorem tupR_dat {K : PySem.W.Frag} {ds : List PyData} {B : Hp} {v : V} (h : tupR K (ds.map (dat K)) B v) : dat K (.tuple ds) B v := by
  obtain ⟨a, xs, rfl, h, g⟩ := h
  exact .tup h (allR_dp g)
theorem dat_lstR {K : PySem.W.Frag} {ds : List PyData} {B : Hp} {v : V} (h : dat K (.list ds) B v) : lstR K (ds.map (dat K)) B v := by
  cases h with
  | lst h1 h2 => exact ⟨_, _, rfl, h1, dp_allR h2⟩
theorem dat_tupR {K : PySem.W.Frag} {ds : List PyData} {B : Hp} {v : V} (h : dat K (.tuple ds) B v) : tupR K (ds.map (dat K)) B v := by
  cases h with
  | tup h1 h2 => exact ⟨_, _, rfl, h1, dp_allR h2⟩
theorem dat_int {K : PySem.W.Frag} {i : Int} {B : Hp} {v : V} (h : dat K (.int i) B v) : v = .int i := by cases h; rfl
theorem dat_str {K : PySem.W.Frag} {i : Str} {B : Hp} {v : V} (h : dat K (.str i) B v) : v = .str i := by cases h; rfl
theorem dat_bl {K : PySem.W.Frag} {i : Bool} {B : Hp} {v : V} (h : dat K (.bool i) B v) : v = .bl i := by cases h; rfl

/-! ### what evaluates to what -/
def De (te : TE) (σ : L2.St) (B : Hp) (R : Rel) : Prop := ∀ B1 H, Same B B1 → Same B1 H → ∀ Q : VK, (∀ v B' H', Ext B1 H B' H' → R B' v → Q v H') → te σ H Q
def Da (ta : TA) (σ : L2.St) (B : Hp) (Rs : List Rel) : Prop := ∀ B1 H, Same B B1 → Same B1 H → ∀ Q : List V → Hp → Prop, (∀ vs B' H', Ext B1 H B' H' → AllR Rs B' vs → Q vs H') → ta σ H Q
def Dt (tt : TT) (σ : L2.St) (B : Hp) (b : Bool) : Prop := ∀ B1 H, Same B B1 → Same B1 H → ∀ Q : Bool → Hp → Prop, (∀ B' H', Ext B1 H B' H' → Q b H') → tt σ H Q
def Do (to : TO) (σ : L2.St) (B : Hp) (o : Option Int) : Prop := ∀ B1 H, Same B B1 → Same B1 H → ∀ Q : Option Int → Hp → Prop, (∀ B' H', Ext B1 H B' H' → Q o H') → to σ H Q
/-- operations on values -/
def Rv (r : R2) (B : Hp) (R S T : Rel) : Prop := ∀ x y B1 H, Same B B1 → Same B1 H → R B1 x → S B1 y → ∀ Q : VK, (∀ v B' H', Ext B1 H B' H' → T B' v → Q v H') → r x y H Q
def Ru (r : V → Hp → VK → Prop) (B : Hp) (R T : Rel) : Prop := ∀ x B1 H, Same B B1 → Same B1 H → R B1 x → ∀ Q : VK, (∀ v B' H', Ext B1 H B' H' → T B' v → Q v H') → r x H Q
def Rc (r : List V → Hp → VK → Prop) (B : Hp) (Rs : List Rel) (T : Rel) : Prop := ∀ vs B1 H, Same B B1 → Same B1 H → AllR Rs B1 vs → ∀ Q : VK, (∀ v B' H', Ext B1 H B' H' → T B' v → Q v H') → r vs H Q

section
variable {K : PySem.W.Frag} {σ : L2.St} {B B' : Hp} {ta tb te : TE} {tt tu : TT} {R S T U : Rel} {Rs : List Rel} {x v : V}
theorem De.mono (s : Same B B') (h : De te σ B R) : De te σ B' R := fun B1 H s1 s2 => h B1 H (s.trans s1) s2
theorem Da.mono {ta : TA} (s : Same B B') (h : Da ta σ B Rs) : Da ta σ B' Rs := fun B1 H s1 s2 => h B1 H (s.trans s1) s2
theorem Dt.mono {b : Bool} (s : Same B B') (h : Dt tt σ B b) : Dt tt σ B' b := fun B1 H s1 s2 => h B1 H (s.trans s1) s2
theorem De.conv (h : De te σ B R) (f : ∀ B v, R B v → S B v) : De te σ B S := fun B1 H s1 s2 Q q => h B1 H s1 s2 Q fun v B2 H2 e hv => q v B2 H2 e (f _ _ hv)
theorem De.eq {d e : PyData} (h : De te σ B (dat K d)) (z : d = e) : De te σ B (dat K e) := z ▸ h
theorem Dt.eq {b c : Bool} (h : Dt tt σ B b) (z : b = c) : Dt tt σ B c := z ▸ h
theorem De.var {i : Nat} [m : Mo R] (hR : R B v) (h : σ[i]? = some (some v)) : De (tVar i) σ B R := fun B1 H s1 s2 Q q => ⟨v, h, q v B1 H (.refl s2) (m.mo s1 hR)⟩
theorem De.cst (h : ∀ B, R B v) : De (tC v) σ B R := fun B1 H _ s2 Q q => q v B1 H (.refl s2) (h _)
theorem De.int {n : Int} : De (tC (.int n)) σ B (dat K (.int n)) := .cst fun _ => .int n
theorem De.str {z : Str} : De (tC (.str z)) σ B (dat K (.str z)) := .cst fun _ => .str z
theorem De.bl {b : Bool} : De (tC (.bl b)) σ B (dat K (.bool b)) := .cst fun _ => .bl b
theorem De.non : De (tC .non) σ B (dat K .none) := .cst fun _ => .non
theorem Da.nil : Da tNil σ B [] := fun B1 H _ s2 Q q => q [] B1 H (.refl s2) rfl
theorem Da.cons {tr : TA} [m : Mo R] (h : De ta σ B R) (t : Da tr σ B Rs) : Da (tCons ta tr) σ B (R :: Rs) := fun B1 H s1 s2 Q q =>
  h B1 H s1 s2 _ fun v B2 H2 e hv => t B2 H2 (s1.trans e.bb) e.bh _ fun vs B3 H3 e2 hvs => q _ B3 H3 (e.trans e2) ⟨v, vs, rfl, m.mo e2.bb hv, hvs⟩
theorem De.lst {ta : TA} [m : MoA Rs] (h : Da ta σ B Rs) (hz : Rs.length ≤ sizeLine) : De (tLst ta) σ B (lstR K Rs) := fun B1 H s1 s2 Q q =>
  h B1 H s1 s2 _ fun vs B2 H2 e hvs => ⟨by rw [allR_len hvs]; exact hz, fun p hp => q _ (upd B2 p (.lst vs)) _ (e.trans (Ext.new e.bh hp)) ⟨p, vs, rfl, SqL.of upd_same, m.mo (new_same (e.bh.free hp)) hvs⟩⟩
theorem De.tup {ta : TA} [m : MoA Rs] (h : Da ta σ B Rs) (hz : Rs.length ≤ sizeLine) : De (tTup ta) σ B (tupR K Rs) := fun B1 H s1 s2 Q q =>
  h B1 H s1 s2 _ fun vs B2 H2 e hvs => ⟨by rw [allR_len hvs]; exact hz, fun p hp => q _ (upd B2 p (.tup vs)) _ (e.trans (Ext.new e.bh hp)) ⟨p, vs, rfl, SqT.of upd_same, m.mo (new_same (e.bh.free hp)) hvs⟩⟩
theorem De.op {r : R2} [m : Mo R] (ha : De ta σ B R) (hb : De tb σ B S) (hr : Rv r B R S T) : De (tOp r ta tb) σ B T := fun B1 H s1 s2 Q q =>
  ha B1 H s1 s2 _ fun x B2 H2 e hx => hb B2 H2 (s1.trans e.bb) e.bh _ fun y B3 H3 e2 hy => hr x y B3 H3 ((s1.trans e.bb).trans e2.bb) e2.bh (m.mo e2.bb hx) hy Q fun v B4 H4 e3 hv => q v B4 H4 ((e.trans e2).trans e3) hv
theorem De.un {r : V → Hp → VK → Prop} (ha : De ta σ B R) (hr : Ru r B R T) : De (tUn r ta) σ B T := fun B1 H s1 s2 Q q =>
  ha B1 H s1 s2 _ fun x B2 H2 e hx => hr x B2 H2 (s1.trans e.bb) e.bh hx Q fun v B4 H4 e3 hv => q v B4 H4 (e.trans e3) hv
theorem De.cb {r : List V → Hp → VK → Prop} {ta : TA} (ha : Da ta σ B Rs) (hr : Rc r B Rs T) : De (tCB r ta) σ B T := fun B1 H s1 s2 Q q =>
  ha B1 H s1 s2 _ fun x B2 H2 e hx => hr x B2 H2 (s1.trans e.bb) e.bh hx Q fun v B4 H4 e3 hv => q v B4 H4 (e.trans e3) hv
/-- what a def is worth, that changes nothing that was -/
def Pf {α : Type} (args : α → List Rel) (pre : α → Prop) (res : α → Rel) : Sp := fun vs H Q _ => ∃ (B : Hp) (a : α), Same B H ∧ AllR (args a) B vs ∧ pre a ∧ ∀ v B' H', Ext B H B' H' → res a B' v → Q v H'
theorem De.call {α : Type} {args : α → List Rel} {pre : α → Prop} {res : α → Rel} {E : XK} {ta : TA} (a : α) (ha : Da ta σ B (args a)) (hp : pre a) : De (tCall (Pf args pre res) [] E ta) σ B (res a) := fun B1 H s1 s2 Q q =>
  ha B1 H s1 s2 _ fun x B2 H2 e hx => by
    show Pf args pre res (x ++ []) H2 Q E
    rw [List.append_nil]
    exact ⟨B2, a, e.bh, hx, hp, fun v B4 H4 e3 hv => q v B4 H4 (e.trans e3) hv⟩
/-- .. by names: the values as they are written, the parameters' places among them -/
theorem De.callK {α : Type} {args : α → List Rel} {pre : α → Prop} {res : α → Rel} {E : XK} {tk : TA} {ix : List Nat} {n : Nat} (a : α) (ha : Da tk σ B Rs) (hn : Rs.length = n) (hx : ∀ B vs, AllR Rs B vs → AllR (args a) B (kwV ix vs)) (hp : pre a) : De (tCalK (Pf args pre res) ix n E tk) σ B (res a) := fun B1 H s1 s2 Q q =>
  ha B1 H s1 s2 _ fun x B2 H2 e hv => ⟨by rw [allR_len hv]; exact hn, B2, a, e.bh, hx _ _ hv, hp, fun v B4 H4 e3 hv => q v B4 H4 (e.trans e3) hv⟩
theorem Do.none : Do tNoPart σ B none := fun B1 H _ s2 Q q => q B1 H (.refl s2)
theorem Do.some {i : Int} (h : De te σ B (dat K (.int i))) : Do (tPart te) σ B (some i) := fun B1 H s1 s2 Q q =>
  h B1 H s1 s2 _ fun v B2 H2 e hv => ⟨i, dat_int hv, q B2 H2 e⟩
theorem De.sl {r : V → Option Int → Option Int → Hp → VK → Prop} {tl th : TO} {lo hi : Option Int} [m : Mo R] (h : De te σ B R) (h1 : Do tl σ B lo) (h2 : Do th σ B hi)
    (hr : ∀ x B1 H, Same B B1 → Same B1 H → R B1 x → ∀ Q : VK, (∀ v B' H', Ext B1 H B' H' → T B' v → Q v H') → r x lo hi H Q) : De (tSl r te tl th) σ B T := fun B1 H s1 s2 Q q =>
  h B1 H s1 s2 _ fun x B2 H2 e hx => h1 B2 H2 (s1.trans e.bb) e.bh _ fun B3 H3 e2 => h2 B3 H3 ((s1.trans e.bb).trans e2.bb) e2.bh _ fun B4 H4 e3 =>
    hr x B4 H4 (((s1.trans e.bb).trans e2.bb).trans e3.bb) e3.bh (m.mo (e2.bb.trans e3.bb) hx) Q fun v B5 H5 e4 hv => q v B5 H5 (((e.trans e2).trans e3).trans e4) hv

/-! ### tests, choices -/
theorem Dt.test {b : Bool} (h : De te σ B (dat K (.bool b))) : Dt (tTest te) σ B b := fun B1 H s1 s2 Q q => h B1 H s1 s2 _ fun v B2 H2 e hv => ⟨b, dat_bl hv, q B2 H2 e⟩
theorem Dt.tB {b : Bool} (h : De te σ B (dat K (.bool b))) : Dt (tB te) σ B b := fun B1 H s1 s2 Q q => h B1 H s1 s2 _ fun v B2 H2 e hv => ⟨b, dat_bl hv, q B2 H2 e⟩
theorem Dt.and {a b : Bool} (h1 : Dt tt σ B a) (h2 : a = true → Dt tu σ B b) : Dt (tAnd tt tu) σ B (a && b) := fun B1 H s1 s2 Q q => h1 B1 H s1 s2 _ fun B2 H2 e => by
  cases a with
  | true => exact h2 rfl B2 H2 (s1.trans e.bb) e.bh Q fun B3 H3 e3 => q B3 H3 (e.trans e3)
  | false => exact q B2 H2 e
theorem Dt.or {a b : Bool} (h1 : Dt tt σ B a) (h2 : a = false → Dt tu σ B b) : Dt (tOr tt tu) σ B (a || b) := fun B1 H s1 s2 Q q => h1 B1 H s1 s2 _ fun B2 H2 e => by
  cases a with
  | true => exact q B2 H2 e
  | false => exact h2 rfl B2 H2 (s1.trans e.bb) e.bh Q fun B3 H3 e3 => q B3 H3 (e.trans e3)
theorem Dt.not {a : Bool} (h1 : Dt tt σ B a) : Dt (tNot tt) σ B (!a) := fun B1 H s1 s2 Q q => h1 B1 H s1 s2 _ q
theorem Dt.yes : Dt tYes σ B true := fun B1 H _ s2 Q q => q B1 H (.refl s2)
theorem De.ite {b : Bool} (h : Dt tt σ B b) (h1 : b = true → De ta σ B R) (h2 : b = false → De tb σ B R) : De (tIf tt ta tb) σ B R := fun B1 H s1 s2 Q q => h B1 H s1 s2 _ fun B2 H2 e => by
  cases b with
  | true => exact h1 rfl B2 H2 (s1.trans e.bb) e.bh Q fun v B3 H3 e3 => q v B3 H3 (e.trans e3)
  | false => exact h2 rfl B2 H2 (s1.trans e.bb) e.bh Q fun v B3 H3 e3 => q v B3 H3 (e.trans e3)
theorem De.iteD {b : Bool} {d e : PyData} (h : Dt tt σ B b) (h1 : b = true → De ta σ B (dat K d)) (h2 : b = false → De tb σ B (dat K e)) : De (tIf tt ta tb) σ B (dat K (if b = true then d else e)) :=
  .ite h (fun z => by rw [if_pos z]; exact h1 z) (fun z => by rw [if_neg (by rw [z]; decide)]; exact h2 z)
theorem De.andV {a b : Bool} (h1 : De ta σ B (dat K (.bool a))) (h2 : a = true → De tb σ B (dat K (.bool b))) : De (tAndV ta tb) σ B (dat K (.bool (a && b))) := fun B1 H s1 s2 Q q => h1 B1 H s1 s2 _ fun v B2 H2 e hv => ⟨a, dat_bl hv, by
  cases a with
  | true => exact h2 rfl B2 H2 (s1.trans e.bb) e.bh Q fun v B3 H3 e3 => q v B3 H3 (e.trans e3)
  | false => exact q _ B2 H2 e (.bl false)⟩
theorem De.orV {a b : Bool} (h1 : De ta σ B (dat K (.bool a))) (h2 : a = false → De tb σ B (dat K (.bool b))) : De (tOrV ta tb) σ B (dat K (.bool (a || b))) := fun B1 H s1 s2 Q q => h1 B1 H s1 s2 _ fun v B2 H2 e hv => ⟨a, dat_bl hv, by
  cases a with
  | true => exact q _ B2 H2 e (.bl true)
  | false => exact h2 rfl B2 H2 (s1.trans e.bb) e.bh Q fun v B3 H3 e3 => q v B3 H3 (e.trans e3)⟩
theorem De.notV {a : Bool} (h1 : De ta σ B (dat K (.bool a))) : De (tNotV ta) σ B (dat K (.bool (!a))) := fun B1 H s1 s2 Q q => h1 B1 H s1 s2 _ fun v B2 H2 e hv => ⟨a, dat_bl hv, q _ B2 H2 e (.bl _)⟩

/-! ### operations -/
theorem Rv.I0 {f : Int → Int → Int} {i j : Int} : Rv (rI0 fun i j => V.int (f i j)) B (dat K (.int i)) (dat K (.int j)) (dat K (.int (f i j))) := fun x y B1 H _ s2 hx hy Q q =>
  ⟨i, j, dat_int hx, dat_int hy, q _ B1 H (.refl s2) (.int _)⟩
theorem Rv.I0b {f : Int → Int → Bool} {i j : Int} : Rv (rI0 fun i j => V.bl (f i j)) B (dat K (.int i)) (dat K (.int j)) (dat K (.bool (f i j))) := fun x y B1 H _ s2 hx hy Q q =>
  ⟨i, j, dat_int hx, dat_int hy, q _ B1 H (.refl s2) (.bl _)⟩
theorem Rv.I {C : Int → Int → Prop} {f : Int → Int → Int} {i j : Int} (hc : C i j) : Rv (rI C fun i j => V.int (f i j)) B (dat K (.int i)) (dat K (.int j)) (dat K (.int (f i j))) := fun x y B1 H _ s2 hx hy Q q =>
  ⟨i, j, dat_int hx, dat_int hy, hc, q _ B1 H (.refl s2) (.int _)⟩
theorem Rv.addS {x y : Str} (hz : x.length + y.length ≤ sizeLine) : Rv (fun x y H Q => ∃ i j, x = .str i ∧ y = .str j ∧ i.length + j.length ≤ sizeLine ∧ Q (.str (i ++ j)) H) B (dat K (.str x)) (dat K (.str y)) (dat K (.str (x ++ y))) := fun _ _ B1 H _ s2 hx hy Q q =>
  ⟨x, y, dat_str hx, dat_str hy, hz, q _ B1 H (.refl s2) (.str _)⟩
theorem Rv.eqD {d e : PyData} (hd : SeqAt.shaped d = true) (he : SeqAt.shaped e = true) : Rv (rEqD K) B (dat K d) (dat K e) (dat K (.bool (PyData.eqv d e))) := fun x y B1 H _ s2 hx hy Q q =>
  ⟨d, e, dpMono s2 _ _ hx, dpMono s2 _ _ hy, hd, he, q _ B1 H (.refl s2) (.bl _)⟩
theorem Rv.neD {d e : PyData} (hd : SeqAt.shaped d = true) (he : SeqAt.shaped e = true) : Rv (rNeD K) B (dat K d) (dat K e) (dat K (.bool (!PyData.eqv d e))) := fun x y B1 H _ s2 hx hy Q q =>
  ⟨d, e, dpMono s2 _ _ hx, dpMono s2 _ _ hy, hd, he, q _ B1 H (.refl s2) (.bl _)⟩
theorem Rv.inL {d : PyData} {ds : List PyData} (hd : SeqAt.shaped d = true) (he : SeqAt.shaped (.list ds) = true) : Rv (rInD K) B (dat K d) (dat K (.list ds)) (dat K (.bool (ds.any fun z => PyData.eqv z d))) := fun x y B1 H _ s2 hx hy Q q =>
  ⟨d, ds, dpMono s2 _ _ hx, dpMono s2 _ _ hy, hd, he, q _ B1 H (.refl s2) (.bl _)⟩
theorem Rv.notInL {d : PyData} {ds : List PyData} (hd : SeqAt.shaped d = true) (he : SeqAt.shaped (.list ds) = true) : Rv (rNotInD K) B (dat K d) (dat K (.list ds)) (dat K (.bool (!ds.any fun z => PyData.eqv z d))) := fun x y B1 H _ s2 hx hy Q q =>
  ⟨d, ds, dpMono s2 _ _ hx, dpMono s2 _ _ hy, hd, he, q _ B1 H (.refl s2) (.bl _)⟩
theorem allR_atI {xs : List V} {i : Int} (h : AllR Rs B xs) (z : atI Rs i = some R) : ∃ v, atI xs i = some v ∧ R B v := by
  unfold atI at *
  rw [allR_len h]
  cases e : ixN Rs.length i with
  | none =>
    rw [e] at z
    cases z
  | some j =>
    rw [e] at z
    exact allR_of h z
theorem Rv.ixL {i : Int} (z : atI Rs i = some R) : Rv (rIxL K) B (lstR K Rs) (dat K (.int i)) R := fun x y B1 H _ s2 hx hy Q q => by
  obtain ⟨a, xs, rfl, h, g⟩ := hx
  obtain ⟨v, hv, hR⟩ := allR_atI g z
  exact ⟨a, xs, i, v, rfl, dat_int hy, s2.seq h, hv, q v B1 H (.refl s2) hR⟩
theorem Rv.ixT {i : Int} (z : atI Rs i = some R) : Rv (rIxT K) B (tupR K Rs) (dat K (.int i)) R := fun x y B1 H _ s2 hx hy Q q => by
  obtain ⟨a, xs, rfl, h, g⟩ := hx
  obtain ⟨v, hv, hR⟩ := allR_atI g z
  exact ⟨a, xs, i, v, rfl, dat_int hy, seqT s2 h, hv, q v B1 H (.refl s2) hR⟩
theorem atI_map {α β : Type} (f : α → β) {xs : List α} {i : Int} {x : α} (h : atI xs i = some x) : atI (xs.map f) i = some (f x) := by
  unfold atI at *
  rw [List.length_map]
  cases e : ixN xs.length i with
  | none =>
    rw [e] at h
    cases h
  | some j =>
    rw [e] at h
    have h : xs[j]? = some x := h
    show (xs.map f)[j]? = some (f x)
    rw [List.getElem?_map, h]
    rfl
theorem Rv.ixLD {ds : List PyData} {d : PyData} {i : Int} (z : atI ds i = some d) : Rv (rIxL K) B (dat K (.list ds)) (dat K (.int i)) (dat K d) := fun x y B1 H s1 s2 hx hy => Rv.ixL (K := K) (atI_map (dat K) z) x y B1 H s1 s2 (dat_lstR hx) hy
theorem Rv.ixTD {ds : List PyData} {d : PyData} {i : Int} (z : atI ds i = some d) : Rv (rIxT K) B (dat K (.tuple ds)) (dat K (.int i)) (dat K d) := fun x y B1 H s1 s2 hx hy => Rv.ixT (K := K) (atI_map (dat K) z) x y B1 H s1 s2 (dat_tupR hx) hy
/-- tuple + tuple -/
theorem Rv.catT {xs ys : List PyData} (hz : xs.length + ys.length ≤ sizeLine) : Rv (rCatA K) B (dat K (.tuple xs)) (dat K (.tuple ys)) (dat K (.tuple (xs ++ ys))) := fun x y B1 H _ s2 hx hy Q q => by
  have hx' := hx
  have hy' := hy
  obtain ⟨a, us, rfl, h, g⟩ := dat_tupR hx
  obtain ⟨b, ws, rfl, h', g'⟩ := dat_tupR hy
  have l1 := allR_len g
  have l2 := allR_len g'
  rw [List.length_map] at l1 l2
  refine ⟨a, b, us, ws, rfl, rfl, seqT s2 h, seqT s2 h', by omega, fun e => ?_, fun _ e => ?_, fun _ _ p hp => ?_⟩
  · have : xs = [] := List.eq_nil_of_length_eq_zero (by rw [← l1, e]; rfl)
    subst this
    exact q _ B1 H (.refl s2) hy'
  · have : ys = [] := List.eq_nil_of_length_eq_zero (by rw [← l2, e]; rfl)
    subst this
    rw [List.append_nil] at q
    exact q _ B1 H (.refl s2) hx'
  · refine q _ (upd B1 p (.tup (us ++ ws))) _ (Ext.new s2 hp) ?_
    have s := new_same (o := .tup (us ++ ws)) (s2.free hp)
    exact .tup (SqT.of upd_same) (dpMonoAll s _ _ (allR_dp (by rw [List.map_append]; exact allR_app g g')))
end
end Wv

set_option Elab.async false
set_option linter.all false
set_option maxRecDepth 100000
set_option maxHeartbeats 4000000
/-! Ws0: sorted(xs), xs a list of data that are alike, empty tuples among them too. -/
namespace PySem.W
open PySem PySem.Calls PyProof.Rows PySem.SeqAt
section
variable {prog : Program} {w : World} {A : Around} {E : Value → Shared → Prop} {s : Shared}
theorem oneLt_tup {f : Bool} {xs ys : List PyData} {a b : Value} {as bs : List Addr} {Q : Bool → Shared → Prop} (ra : Reads s.heap a (.tuple xs) as) (rb : Reads s.heap b (.tuple ys) bs) (h : alike (.tuple xs) (.tuple ys) = true)
    (hu : A.units + min (PyData.tuple xs).depth (PyData.tuple ys).depth < cLine) (hq : Q (dataLt (.tuple xs) (.tuple ys)) s) : wpAny (model prog w) A (oneLt' f a b) Q E s := by
  cases f with
  | false => exact oneLt_alike (fun z => nomatch z) ra rb h (fun z => nomatch z) hu hq
  | true =>
    have hal : alikeAll xs ys = true := by simpa [alike] using h
    cases ra with
    | @tuple l o vs n _ as₁ h1 h2 h3 h4 =>
      cases rb with
      | @tuple l' o' vs' n' _ bs₁ k1 k2 k3 k4 =>
        have n1 : vs.size = xs.length := by simpa using ReadsAll.length _ _ _ h4
        have n2 : vs'.size = ys.length := by simpa using ReadsAll.length _ _ _ k4
        rw [dataLt_tuple, ← firstLt_toks xs ys hal, ← n1, ← n2] at hq
        rw [oneLt'_eq]
        simp only [if_true]
        refine wpAny_bind (wpAny_cRoomFor (room_here hu) ?_)
        obtain ⟨cls, dd, data, sl⟩ := o
        obtain ⟨cls2, dd2, data2, sl2⟩ := o'
        simp only at h2 h3 k2 k3
        subst h2 h3 k2 k3
        refine wpAny_bind (wpAny_callSpecialIfBound?_slot (T := "tuple") ⟨_, h1, rfl⟩ F.slot_tuple_lt (call_meets F.slot_tuple_lt ⟨_, h1, rfl⟩ F.entry_tuple_lt (F.args_tuple_lt_2 _ _)
          (tuple_ltAt l l' vs vs' n n' dd dd2 sl sl2 (pairEq xs ys) (fun j => dataLt (xs.getD j .none) (ys.getD j .none))) ⟨h1, k1, fun j j1 j2 => ?_, fun j j1 j2 hj => ?_, ?_⟩))
        · have := eqAt_alikeAll xs ys A.in1 s vs.toList vs'.toList _ _ h4 k4 hal (room_in hu) j (by simpa using j1) (by simpa using j2)
          simpa using this
        · have := rcLt_alikeAll xs ys A.in1 s vs.toList vs'.toList _ _ h4 k4 hal (room_in hu) j (by simpa using j1) (by simpa using j2) hj
          simpa using this
        · exact wpAny_truthy_bool hq
def full : PyData → Bool
  | .tuple (_ :: _) => true
  | _ => false
/-- the first items of tuples, empty ones among them -/
theorem firsts_mix : ∀ (vs : List Value) (ds : List PyData) {Q : List (Option Value) → Shared → Prop}, EachIs (fun v d => ∃ as, Reads s.heap v d as) vs ds → (∀ d, d ∈ ds → ∃ xs, d = .tuple xs) →
    (∀ fs : List (Option Value), fs.map (·.isSome) = ds.map full → Q fs s) → wpAny (model prog w) A (vs.mapM firstOfTuple') Q E s
  | _, _, _, .nil, _, h => by
    rw [List.mapM_nil]
    exact wpAny_pure (h [] rfl)
  | _, _, Q, .cons (b := d) (as := vs) (bs := ds) ⟨as, r⟩ t, ht, h => by
    obtain ⟨xs, rfl⟩ := ht d List.mem_cons_self
    cases r with
    | @tuple a o us n _ _ ho hc hd hr =>
      rw [List.mapM_cons]
      refine wpAny_bind ?_
      rw [kas_first_eq]
      refine wpAny_bind (Looks.here (show Looks (model prog w) s.heap (typeOf (.ref a)) o.cls from (Looks.ld ho).andThen .now) ?_)
      rw [hc, if_neg (by first | decide | simp)]
      refine wpAny_bind (listItems_at ho hd (wpAny_pure ?_))
      have e : (us[0]?).isSome = full (.tuple xs) := by
        have n1 : us.size = xs.length := by simpa using ReadsAll.length _ _ _ hr
        cases xs with
        | nil =>
          have : us[0]? = none := by
            rw [Array.getElem?_eq_none_iff, n1]
            exact Nat.le_refl _
          rw [this]
          rfl
        | cons x r =>
          have : 0 < us.size := by rw [n1]; simp
          rw [Array.getElem?_eq_getElem this]
          rfl
      exact wpAny_bind (firsts_mix vs ds (Q := fun bs s' => wpAny (model prog w) A (pure (us[0]? :: bs)) Q E s') t (fun d hd => ht d (List.mem_cons_of_mem _ hd)) fun fs hf => wpAny_pure (h _ (by rw [List.map_cons, List.map_cons, hf, e])))
/-- tuples that are alike can be sorted -/
theorem SortsAt.tups {vs : List Value} {ds : List PyData} (e : EachIs (fun v d => ∃ as, Reads s.heap v d as) vs ds) (hal : AllAlike ds) (ht : ∀ d, d ∈ ds → ∃ xs, d = .tuple xs) (hu : ∀ d, d ∈ ds → A.units + d.depth < cLine) : SortsAt prog w A s (dataKind s.heap ds) vs := by
  by_cases hf : ∀ d, d ∈ ds → full d = true
  · refine SortsAt.data e hal (.inl fun d hd => ?_) hu
    obtain ⟨xs, rfl⟩ := ht d hd
    have := hf _ hd
    cases xs with
    | nil => cases this
    | cons x r => exact ⟨x, r, rfl⟩
  have lt : ∀ kd : SortKind, (∀ x y, keyLt' kd x y = oneLt' true x y) ∨ (∀ x y, keyLt' kd x y = oneLt' false x y) → H.LtAt prog w A s (dataKind s.heap ds) kd := by
    intro kd hk E x y a b Q ha hb hq
    obtain ⟨d, as, hd, ra, rfl⟩ := dataKind_inv ha
    obtain ⟨d', as', hd', rb, rfl⟩ := dataKind_inv hb
    obtain ⟨xs, rfl⟩ := ht d hd
    obtain ⟨ys, rfl⟩ := ht d' hd'
    have room : A.units + min (PyData.tuple xs).depth (PyData.tuple ys).depth < cLine := Nat.lt_of_le_of_lt (Nat.add_le_add_left (Nat.min_le_left _ _) _) (hu _ hd)
    rcases hk with hk | hk
    · rw [hk]
      exact oneLt_tup ra rb (hal _ hd _ hd') room hq
    · rw [hk]
      exact oneLt_tup ra rb (hal _ hd _ hd') room hq
  have hkeys : ∀ v, v ∈ vs → ∃ a, (dataKind s.heap ds).keyOf v = some a := fun v hv => by
    obtain ⟨d, hd, as, r⟩ := e.left v hv
    exact ⟨_, dataKind_some hal hd r⟩
  cases ds with
  | nil => exact absurd (fun d hd => nomatch hd) hf
  | cons d₀ ds₀ =>
    have many : ∀ fs : List (Option Value), fs.map (·.isSome) = (d₀ :: ds₀).map full → fs.toArray.all (·.isSome) = false := by
      intro fs hfs
      rw [Bool.eq_false_iff]
      intro q
      refine hf fun d hd => ?_
      rw [List.all_toArray, List.all_eq_true] at q
      have m : full d ∈ fs.map (·.isSome) := by
        rw [hfs]
        exact List.mem_map.mpr ⟨d, hd, rfl⟩
      obtain ⟨o, ho, eo⟩ := List.mem_map.mp m
      rw [← eo]
      exact q o ho
    have first : ∀ fs : List (Option Value), fs.map (·.isSome) = (d₀ :: ds₀).map full → ((fs.toArray[0]?).bind id).isSome = full d₀ := by
      intro fs hfs
      cases fs with
      | nil => cases hfs
      | cons o r =>
        rw [List.map_cons, List.map_cons] at hfs
        have := (List.cons.inj hfs).1
        simpa using this
    cases hd0 : full d₀ with
    | true =>
      refine ⟨hkeys, general', lt _ (.inr fun _ _ => rfl), fun _ E Q hq => ?_⟩
      rw [keyKind'_eq, List.mapM_toArray, map_eq_pure_bind]
      refine wpAny_bind (wpAny_bind (firsts_mix vs _ e ht fun fs hfs => wpAny_pure ?_))
      rw [if_neg (by rw [many fs hfs]; decide), if_pos (by rw [first fs hfs, hd0])]
      exact wpAny_pure hq
    | false =>
      refine ⟨hkeys, oneType', lt _ (.inl fun _ _ => rfl), fun _ E Q hq => ?_⟩
      rw [keyKind'_eq, List.mapM_toArray, map_eq_pure_bind]
      refine wpAny_bind (wpAny_bind (firsts_mix vs _ e ht fun fs hfs => wpAny_pure ?_))
      rw [if_neg (by rw [many fs hfs]; decide), if_neg (by rw [first fs hfs, hd0]; decide)]
      rw [oneTypeOnly'_eq, List.mapM_toArray, map_eq_pure_bind]
      have tys : ∀ v ∈ vs, ∀ Q' : Value → Shared → Prop, Q' (.type "tuple") s → wpAny (model prog w) A (typeOf v) Q' E s := fun v hv Q' hq' => by
        obtain ⟨d, hd, as, r⟩ := e.left v hv
        obtain ⟨xs, rfl⟩ := ht d hd
        exact (looks_reads r).here hq'
      refine wpAny_bind (wpAny_bind (wpAny_bind (kas_mapM (r := Value.type "tuple") _ (fun v hv Q' hq' => tys v hv Q' hq') (wpAny_pure ?_))))
      cases e with
      | cons h1 t =>
        rename_i v0 vr _
        have h0 : (List.map (fun _ => Value.type "tuple") (v0 :: vr)).toArray[0]? = some (Value.type "tuple") := by simp
        rw [h0]
        have h3 : ((List.map (fun _ => Value.type "tuple") (v0 :: vr)).toArray.all fun x => x == Value.type "tuple") = true := by
          simp only [List.all_toArray, List.all_map, List.all_eq_true]
          intro _ _
          exact beq_self_eq_true _
        dsimp only
        rw [if_pos h3]
        exact wpAny_pure (wpAny_pure hq)
/-- what can be sorted: tuples, or neither tuples nor None -/
def SortOk (ds : List PyData) : Prop := (∀ d, d ∈ ds → ∃ xs, d = .tuple xs) ∨ ∀ d, d ∈ ds → d ≠ .none ∧ ∀ xs, d ≠ .tuple xs
theorem SortsAt.ok {vs : List Value} {ds : List PyData} (e : EachIs (fun v d => ∃ as, Reads s.heap v d as) vs ds) (hal : AllAlike ds) (hk : SortOk ds) (hu : ∀ d, d ∈ ds → A.units + d.depth < cLine) : SortsAt prog w A s (dataKind s.heap ds) vs := by
  rcases hk with h | h
  · exact SortsAt.tups e hal h hu
  · exact SortsAt.data e hal (.inr h) hu
theorem sorted_ok {l : Addr} {β : Type} {vs : List Value} {bs : List β} {enc : β → PyData} {R : Value → β → Prop} {Q : Value → Shared → Prop} (hl : s.heap.IsList l vs.toArray) (e : EachIs R vs bs) (er : EachIs (fun v b => ∃ as, Reads s.heap v (enc b) as) vs bs)
    (hal : AllAlike (bs.map enc)) (hk : SortOk (bs.map enc)) (hL : bs.length ≤ sizeLine)
    (hu : ∀ b, b ∈ bs → A.units + 2 + (enc b).depth < cLine) (h : ∀ out, out.length = bs.length → EachIs R out (bs.mergeSort (dataLe false enc)) → Q (.ref (s.heap.objs.size + 1)) { s with heap := sortedAll s.heap vs (List.toArray out) }) :
    wpAny (model prog w) A (call (.builtin "sorted") [.ref l]) Q E s := by
  have er' : EachIs (fun v b => ∃ as, Reads (sortingHeap (copyHeap s.heap vs) (s.heap.objs.size + 1) vs) v (enc b) as) vs bs := er.mono fun _ _ ⟨as, r⟩ => ⟨as, PyProof.Rows.Reads.keeps (fun _ _ => sorting_copy_old) r⟩
  exact sorted_vals hl (SortsAt.ok (s := { s with heap := sortingHeap (copyHeap s.heap vs) (s.heap.objs.size + 1) vs }) (each_map (R := fun v d => ∃ as, Reads (sortingHeap (copyHeap s.heap vs) (s.heap.objs.size + 1) vs) v d as) enc er') hal hk (bound_map hu)) (by rw [e.length]; exact hL)
    (h _ (by rw [sortVals_length false rfl]; exact e.length) (sortVals_data false e er' hal))
end
end PySem.W
namespace Wb
open PySem PySem.Spec PyProof.Rows L2
/-- the order of data -/
def dle (x y : PyData) : Bool := PySem.W.dataLe false (fun d : PyData => d) x y
def sortD (ds : List PyData) : List PyData := ds.mergeSort dle
/-- the values in that order -/
def sortV (xs : List V) (ds : List PyData) : List V := ((xs.zip ds).mergeSort fun a b => dle a.2 b.2).map Prod.fst
/-- sorted(xs) of a list of data -/
def rSortedD (K : PySem.W.Frag) : List V → Hp → VK → Prop := fun vs H Q => ∃ (a : Addr) (xs : List V) (ds : List PyData), vs = [.ref a] ∧ SqL K H a xs ∧ DpAll K H xs ds ∧ PySem.W.AllAlike ds ∧ PySem.W.SortOk ds ∧ (∀ d ∈ ds, d.depth ≤ 60) ∧
  ∀ p, H p = none → Q (.ref p) (upd H p (.lst (sortV xs ds)))
theorem dpAll_pairs {K : PySem.W.Frag} {H : Hp} : ∀ {l : List (V × PyData)}, (∀ p ∈ l, Dp K H p.1 p.2) → DpAll K H (l.map Prod.fst) (l.map Prod.snd)
  | [], _ => .nil
  | p :: l, h => .cons (h p List.mem_cons_self) (dpAll_pairs fun q hq => h q (List.mem_cons_of_mem _ hq))
theorem pairs_dpAll {K : PySem.W.Frag} {H : Hp} : ∀ {xs : List V} {ds : List PyData}, DpAll K H xs ds → ∀ p ∈ xs.zip ds, Dp K H p.1 p.2
  | _, _, .nil => fun p h => nomatch h
  | _, _, .cons h t => fun p hp => by
    rcases List.mem_cons.mp hp with e | hp
    · rw [e]
      exact h
    · exact pairs_dpAll t p hp
theorem each_pairs {X : Cx} {pins : List (Addr × Obj)} {σ : L2.St} {H : Hp} {s : Shared} (I : Inv X pins σ H s) : ∀ {xs : List V} {its : List Value} {ds : List PyData}, Vals xs its → DpAll X.K H xs ds →
    PySem.W.EachIs (fun (v : Value) (b : V × PyData) => RelV b.1 v ∧ Dp X.K H b.1 b.2) its (xs.zip ds)
  | _, _, _, .nil, .nil => .nil
  | _, _, _, .cons r t, .cons h g => .cons ⟨r, h⟩ (each_pairs I t g)
theorem pairs_out {K : PySem.W.Frag} {H : Hp} : ∀ {out : List Value} {bs : List (V × PyData)}, PySem.W.EachIs (fun (v : Value) (b : V × PyData) => RelV b.1 v ∧ Dp K H b.1 b.2) out bs → Vals (bs.map Prod.fst) out ∧ DpAll K H (bs.map Prod.fst) (bs.map Prod.snd)
  | _, _, .nil => ⟨.nil, .nil⟩
  | _, _, .cons h t => by
    obtain ⟨a, b⟩ := pairs_out t
    exact ⟨.cons h.1 a, .cons h.2 b⟩
theorem zip_snd : ∀ {xs : List V} {ds : List PyData}, xs.length = ds.length → (xs.zip ds).map Prod.snd = ds
  | [], [], _ => rfl
  | x :: xs, d :: ds, h => by
    rw [List.zip_cons_cons, List.map_cons, zip_snd (by simpa using h)]
theorem dp_sort {K : PySem.W.Frag} {H : Hp} {xs : List V} {ds : List PyData} (h : DpAll K H xs ds) : DpAll K H (sortV xs ds) (sortD ds) := by
  have e : ((xs.zip ds).mergeSort fun a b => dle a.2 b.2).map Prod.snd = sortD ds := by
    unfold sortD
    rw [List.map_mergeSort (s := dle) (f := Prod.snd) (fun a _ b _ => rfl), zip_snd (dpAll_len h)]
  rw [← e]
  exact dpAll_pairs fun p hp => pairs_dpAll h p ((List.mergeSort_perm _ _).mem_iff.mp hp)
section
variable {X : Cx}
theorem cr_sortedD (hu : X.A.units + 64 < cLine) : CallR X (.builtin "sorted") (rSortedD X.K) := by
  intro pins s σ H vs us Q I r h
  obtain ⟨a, xs, ds, rfl, hs, hd, hal, hk, hdep, q⟩ := h
  obtain ⟨its, rv, hl, hz⟩ := I.list hs
  obtain ⟨u, rfl, ru⟩ := vals1 r
  obtain rfl : u = Value.ref a := ru
  have len : xs.length = ds.length := dpAll_len hd
  have em : (xs.zip ds).map Prod.snd = ds := zip_snd len
  have e := each_pairs I rv hd
  have er : PySem.W.EachIs (fun (v : Value) (b : V × PyData) => ∃ as, Reads s.heap v b.2 as) its (xs.zip ds) := e.mono fun v b h => Dp.reads I b.2 b.1 v h.2 h.1
  refine PySem.W.sorted_ok (enc := Prod.snd) hl.isList e er (by rw [em]; exact hal) (by rw [em]; exact hk) (by rw [List.length_zip]; omega) (fun b hb => ?_) fun out ho eo => ?_
  · have := hdep b.2 (List.of_mem_zip hb).2
    omega
  · obtain ⟨o1, o2⟩ := pairs_out eo
    obtain ⟨c, hc⟩ := PyProof.Rows.sortedAll_at s.heap its out.toArray
    have ln : (((xs.zip ds).mergeSort (PySem.W.dataLe false Prod.snd)).map Prod.fst).length ≤ sizeLine := by
      rw [List.length_map, List.length_mergeSort, List.length_zip]
      omega
    exact ⟨.ref (s.heap.objs.size + 1), upd H (s.heap.objs.size + 1) (.lst (((xs.zip ds).mergeSort (PySem.W.dataLe false Prod.snd)).map Prod.fst)), I.laid (t' := s.toks) (fun _ _ => PyProof.Rows.sortedAll_old) (Nat.le_succ _) ⟨ln, out, c, o1, hc⟩, rfl, q _ (I.hok.fresh (Nat.le_succ _))⟩
end
end Wb

set_option Elab.async false
set_option linter.all false
set_option maxRecDepth 100000
set_option maxHeartbeats 4000000
/-! Wv1: what is walked, loops, comprehensions, built-in functions, objects that never change. -/
namespace Wv
open PySem PySem.Spec PyProof.Rows L2 Wb

/-! ### more rules of the language -/
section
variable {X : Cx}
/-- list + list -/
def rCatS (K : PySem.W.Frag) : R2 := fun x y H Q => ∃ l b xs zs, x = .ref l ∧ y = .ref b ∧ SqL K H l xs ∧ SqL K H b zs ∧ xs.length + zs.length ≤ sizeLine ∧ ∀ p, H p = none → Q (.ref p) (upd H p (.lst (xs ++ zs)))
theorem op_catS : OpR X (binaryOp .Add) (rCatS X.K) := by
  intro pins s σ H x y v u Q I rx ry h
  obtain ⟨l, b, xs, zs, rfl, rfl, hl, hb, hz, q⟩ := h
  cases rx
  cases ry
  obtain ⟨its, r, ⟨⟨c1, d1, t1, sl1⟩, n, e, hc, hd, ht⟩, z1⟩ := I.list hl
  obtain ⟨its2, r2, ⟨⟨c2, d2, t2, sl2⟩, n2, e2, hc2, hd2, ht2⟩, z2⟩ := I.list hb
  simp only at hc hd ht hc2 hd2 ht2
  subst hc hd ht hc2 hd2 ht2
  have hlen := r.length
  have hlen2 := r2.length
  refine concat_meets ⟨_, e, rfl⟩ ⟨_, e2, rfl⟩ noFill_list_add seq_list_add PySem.F.slot_list_add PySem.F.entry_list_add (PySem.F.args_list_add_2 _ _) (list_addW l b its.toArray its2.toArray n n2 none none sl1 sl2 (by rw [List.size_toArray, List.size_toArray]; omega)) ⟨e, e2, ?_⟩
  have ea : its.toArray ++ its2.toArray = (its ++ its2).toArray := by simp
  rw [ea]
  exact ⟨.ref _, _, I.lnew (t' := s.toks) (r.append r2) (by rw [List.length_append]; omega), rfl, q _ I.fresh⟩
/-- x in t, a tuple of data -/
def rInT (K : PySem.W.Frag) (neg : Bool) : R2 := fun x y H Q => ∃ d ds, Dp K H x d ∧ Dp K H y (.tuple ds) ∧ SeqAt.shaped d = true ∧ SeqAt.shaped (.tuple ds) = true ∧ Q (.bl (if neg = true then !ds.any fun z => PyData.eqv z d else ds.any fun z => PyData.eqv z d)) H
theorem room_in_shaped' {ds : List PyData} {d : PyData} {u : Nat} (sd : SeqAt.shaped d = true) (hu : u + 65 < cLine) : u + 1 + min (PyData.depthAll ds) d.depth < cLine := by
  have h : d.depth ≤ 64 := by
    unfold SeqAt.shaped at sd
    rw [Bool.and_eq_true] at sd
    exact of_decide_eq_true sd.2
  omega
theorem canLay_tup {ds : List PyData} (h : SeqAt.shaped (.tuple ds) = true) : PyData.canLayAll0 ds = true := by
  unfold SeqAt.shaped at h
  rw [Bool.and_eq_true] at h
  simpa only [PyData.canLay0] using h.1
theorem op_inT (hu : X.A.units + 65 < cLine) : OpR X (compareOp .In) (rInT X.K false) := by
  intro pins s σ H x y v u Q I rx ry h
  obtain ⟨d, ds, hd, he, sd, se, q⟩ := h
  obtain ⟨as, r1⟩ := Dp.reads I d x v hd rx
  obtain ⟨bs, r2⟩ := Dp.reads I (.tuple ds) y u he ry
  exact SeqAt.in_tuple_reads r2 r1 (canLay_tup se) (SeqAt.canLay_of_shaped sd) (room_in_shaped' sd hu) ⟨.bl _, H, I, rfl, q⟩
theorem op_notInT (hu : X.A.units + 65 < cLine) : OpR X (compareOp .NotIn) (rInT X.K true) := by
  intro pins s σ H x y v u Q I rx ry h
  obtain ⟨d, ds, hd, he, sd, se, q⟩ := h
  obtain ⟨as, r1⟩ := Dp.reads I d x v hd rx
  obtain ⟨bs, r2⟩ := Dp.reads I (.tuple ds) y u he ry
  exact SeqAt.notIn_tuple_reads r2 r1 (canLay_tup se) (SeqAt.canLay_of_shaped sd) (room_in_shaped' sd hu) ⟨.bl _, H, I, rfl, q⟩
theorem fold_rep (b : Array Nat) : ∀ (k : Nat) (a : Array Nat), (List.foldl (· ++ ·) a (List.replicate k b)).toList = a.toList ++ (List.replicate k b.toList).flatten
  | 0, a => by simp
  | k + 1, a => by
    rw [List.replicate_succ, List.foldl_cons, fold_rep b k (a ++ b), List.replicate_succ, List.flatten_cons, Array.toList_append, List.append_assoc]
/-- a text some times -/
def mulS (z : Str) (n : Nat) : Str := ⟨((List.replicate n z.cps.toList).flatten).toArray⟩
theorem mulS_eq (z : Str) (n : Nat) : (⟨List.foldl (· ++ ·) #[] (List.replicate n z.cps)⟩ : Str) = mulS z n := by
  unfold mulS
  congr 1
  apply Array.toList_inj.mp
  rw [fold_rep]
  simp
theorem mulS_len (z : Str) (n : Nat) : (mulS z n).length = n * z.length := by
  unfold mulS Str.length
  simp
def rMulS : R2 := fun x y H Q => ∃ (z : Str) (n : Int), x = .str z ∧ y = .int n ∧ 2 ≤ n ∧ n ≤ 1000 ∧ 0 < z.length ∧ z.length ≤ 1000 ∧ Q (.str (mulS z n.toNat)) H
theorem op_mulS : OpR X (binaryOp .Mult) rMulS := by
  intro pins s σ H x y v u Q I rx ry h
  obtain ⟨z, n, rfl, rfl, n2, n3, z0, z1, q⟩ := h
  obtain ⟨t, rfl⟩ := rx
  obtain ⟨t', rfl⟩ := ry
  have h1 : ¬ n < 1 := by omega
  have h2 : (n == 1 || z.length == 0) = false := by
    simp only [Bool.or_eq_false_iff, beq_eq_false_iff_ne]
    constructor <;> omega
  have len : z.length * n.toNat ≤ 1000 * 1000 := Nat.mul_le_mul z1 (by omega)
  refine PySem.P.mul_str (by simp only [Bool.or_eq_false_iff, decide_eq_false_iff_not]; constructor <;> omega) (fun _ _ => ?_) (fun _ _ => ?_) ?_
  · have : (2 ^ 63 - 1 : Int) / n ≥ 1000 := by
      refine (Int.le_ediv_iff_mul_le (by omega)).mpr ?_
      have : (1000 : Int) * n ≤ 1000 * 1000 := by omega
      omega
    omega
  · have : sizeLine = 16777216 := sizeLine_eq
    have : ¬ z.length * n.toNat > sizeLine := by omega
    exact decide_eq_false this
  · rw [if_neg h1, h2, if_neg (by decide)]
    rw [mulS_eq]
    refine ⟨?_, ⟨.str _, H, I.tok _, ⟨_, rfl⟩, q⟩⟩
    rw [mulS_len, sizeLine_eq, Nat.mul_comm]
    omega
end

/-! ### what is walked -/
section
variable {K : PySem.W.Frag} {σ : L2.St} {B B' : Hp} {ta tb te tl : TE} {tt tu : TT} {R S T U : Rel} {Rs : List Rel} {x v : V}
/-- an iterator that gives such items, while a base stands -/
def Wk (J : It) (B1 : Hp) (Rs : List Rel) : Prop := Walk J Rs.length (fun H => Same B1 H) (fun i H x H' => ∃ R, Rs[i]? = some R ∧ ∀ Bc, Same B1 Bc → Same Bc H → ∃ Bn, Ext Bc H Bn H' ∧ R Bn x)
def Di (wi : TI) (σ : L2.St) (B : Hp) (Rs : List Rel) : Prop := ∀ B1 H, Same B B1 → Same B1 H → ∀ Q : It → Hp → Prop, (∀ J B' H', Ext B1 H B' H' → Wk J B' Rs → Q J H') → wi σ H Q
theorem Di.mono {wi : TI} (s : Same B B') (h : Di wi σ B Rs) : Di wi σ B' Rs := fun B1 H s1 s2 => h B1 H (s.trans s1) s2
theorem Di.list [m : MoA Rs] (h : De tl σ B (lstR K Rs)) : Di (iList K tl) σ B Rs := fun B1 H s1 s2 Q q => h B1 H s1 s2 _ fun v B2 H2 e hv => by
  obtain ⟨a, xs, rfl, hs, hR⟩ := hv
  refine ⟨a, rfl, ⟨xs, e.bh.seq hs⟩, q _ B2 H2 e ?_⟩
  have len := allR_len hR
  unfold Wk
  rw [← len]
  refine (walk_list (K := K) (a := a) (xs := xs)).mono (fun H' s => s.seq hs) fun i H' x H'' hi s y => ?_
  obtain ⟨rfl, hx⟩ := y
  obtain ⟨R, hR1, hR2⟩ := allR_at hR hx
  exact ⟨R, hR1, fun Bc sc sh => ⟨Bc, .refl sh, by
    obtain ⟨v', hv', hR3⟩ := allR_of (m.mo sc hR) hR1
    rw [hx] at hv'
    cases hv'
    exact hR3⟩⟩
theorem Di.tup [m : MoA Rs] (h : De tl σ B (tupR K Rs)) : Di (iTup K tl) σ B Rs := fun B1 H s1 s2 Q q => h B1 H s1 s2 _ fun v B2 H2 e hv => by
  obtain ⟨a, xs, rfl, hs, hR⟩ := hv
  refine ⟨a, rfl, ⟨xs, seqT e.bh hs⟩, q _ B2 H2 e ?_⟩
  have len := allR_len hR
  unfold Wk
  rw [← len]
  refine (walk_tup (K := K) (a := a) (xs := xs)).mono (fun H' s => seqT s hs) fun i H' x H'' hi s y => ?_
  obtain ⟨rfl, hx⟩ := y
  obtain ⟨R, hR1, hR2⟩ := allR_at hR hx
  exact ⟨R, hR1, fun Bc sc sh => ⟨Bc, .refl sh, by
    obtain ⟨v', hv', hR3⟩ := allR_of (m.mo sc hR) hR1
    rw [hx] at hv'
    cases hv'
    exact hR3⟩⟩
theorem Di.listD {ds : List PyData} (h : De tl σ B (dat K (.list ds))) : Di (iList K tl) σ B (ds.map (dat K)) := .list (h.conv fun _ _ => dat_lstR)
theorem Di.tupD {ds : List PyData} (h : De tl σ B (dat K (.tuple ds))) : Di (iTup K tl) σ B (ds.map (dat K)) := .tup (h.conv fun _ _ => dat_tupR)
def intsR (K : PySem.W.Frag) (lo : Int) (n : Nat) : List Rel := (List.range n).map fun i : Nat => dat K (.int (lo + (i : Int)))
theorem wk_ints {lo : Int} {n : Nat} : Wk (Itr lo n) B (intsR K lo n) := by
  unfold Wk intsR
  rw [List.length_map, List.length_range]
  refine (walk_range (lo := lo) (n := n)).mono (fun _ _ => trivial) fun i H' x H'' hi s y => ?_
  obtain ⟨rfl, rfl⟩ := y
  refine ⟨dat K (.int (lo + (i : Int))), by rw [List.getElem?_map, List.getElem?_range hi]; rfl, fun Bc sc sh => ⟨Bc, .refl sh, Dp.int _⟩⟩
theorem Di.rng1 {ta : TA} {n : Int} (h : Da ta σ B [dat K (.int n)]) (h0 : -(2 ^ 62) ≤ n) (h1 : n < 2 ^ 62) : Di (iRng1 ta) σ B (intsR K 0 n.toNat) := fun B1 H s1 s2 Q q => h B1 H s1 s2 _ fun vs B2 H2 e hv => by
  obtain ⟨v, r, rfl, h2, h3⟩ := hv
  have h3 : r = [] := h3
  subst h3
  have h2 := dat_int h2
  subst h2
  exact ⟨n, rfl, h0, h1, q _ B2 H2 e wk_ints⟩
theorem Di.rng2 {ta : TA} {lo n : Int} (h : Da ta σ B [dat K (.int lo), dat K (.int n)]) (h0 : -(2 ^ 62) ≤ lo ∧ lo < 2 ^ 62 ∧ -(2 ^ 62) ≤ n ∧ n < 2 ^ 62) : Di (iRng2 ta) σ B (intsR K lo (n - lo).toNat) := fun B1 H s1 s2 Q q => h B1 H s1 s2 _ fun vs B2 H2 e hv => by
  obtain ⟨v, r, rfl, h2, v', r', rfl, h4, h5⟩ := hv
  have h5 : r' = [] := h5
  subst h5
  have h2 := dat_int h2
  subst h2
  have h4 := dat_int h4
  subst h4
  exact ⟨lo, n, rfl, h0, q _ B2 H2 e wk_ints⟩
theorem Di.str {z : Str} (h : De tl σ B (dat K (.str z))) : Di (iStr tl) σ B (z.cps.toList.map fun c => dat K (.str ⟨#[c]⟩)) := fun B1 H s1 s2 Q q => h B1 H s1 s2 _ fun v B2 H2 e hv => by
  have hv := dat_str hv
  subst hv
  refine ⟨z, rfl, q _ B2 H2 e ?_⟩
  unfold Wk
  have len : (z.cps.toList.map fun c => dat K (.str ⟨#[c]⟩)).length = z.cps.size := by simp
  rw [len]
  refine (walk_str (z := z)).mono (fun _ _ => trivial) fun i H' x H'' hi s y => ?_
  obtain ⟨rfl, c, hc, rfl⟩ := y
  refine ⟨dat K (.str ⟨#[c]⟩), ?_, fun Bc sc sh => ⟨Bc, .refl sh, Dp.str _⟩⟩
  rw [List.getElem?_map, Array.getElem?_toList, hc]
  rfl
/-- a new pair -/
theorem pair_new {R S : Rel} [m1 : Mo R] [m2 : Mo S] {Bc H : Hp} {p : Addr} {x y : V} (sh : Same Bc H) (hp : H p = none) (hx : R Bc x) (hy : S Bc y) : ∃ Bn, Ext Bc H Bn (upd H p (.tup [x, y])) ∧ tupR K [R, S] Bn (.ref p) :=
  ⟨upd Bc p (.tup [x, y]), .new sh hp, p, _, rfl, SqT.of upd_same, x, [y], rfl, m1.mo (new_same (sh.free hp)) hx, y, [], rfl, m2.mo (new_same (sh.free hp)) hy, rfl⟩
theorem Di.zip {ta : TA} {Ss : List Rel} [m : MoA Rs] [m' : MoA Ss] (hm : ∀ R ∈ Rs, Mo R) (hm' : ∀ R ∈ Ss, Mo R) (h : Da ta σ B [lstR K Rs, lstR K Ss]) : Di (iZip K ta) σ B ((Rs.zip Ss).map fun p => tupR K [p.1, p.2]) := fun B1 H s1 s2 Q q => h B1 H s1 s2 _ fun vs B2 H2 e hv => by
  obtain ⟨v, r, rfl, ⟨a, xs, rfl, hs, hR⟩, v', r', rfl, ⟨b, ys, rfl, hs', hR'⟩, h5⟩ := hv
  have h5 : r' = [] := h5
  subst h5
  refine ⟨a, b, xs, ys, rfl, e.bh.seq hs, e.bh.seq hs', q _ B2 H2 e ?_⟩
  have len := allR_len hR
  have len' := allR_len hR'
  unfold Wk
  rw [List.length_map]
  refine (walk_zip (K := K) (a := a) (b := b) (xs := xs) (ys := ys) (n := (Rs.zip Ss).length) (by rw [List.length_zip, len, len'])).mono (fun H' s => ⟨s.seq hs, s.seq hs'⟩) fun i H' x H'' hi s y => ?_
  obtain ⟨p, u, w, rfl, hp, rfl, hu, hw⟩ := y
  have hu : xs[i]? = some u := hu
  have hw : ys[i]? = some w := hw
  obtain ⟨R, hR1, _⟩ := allR_at hR hu
  obtain ⟨S, hS1, _⟩ := allR_at hR' hw
  refine ⟨tupR K [R, S], ?_, fun Bc sc sh => ?_⟩
  · rw [List.getElem?_map, List.getElem?_zip_eq_some (z := (R, S)) |>.mpr ⟨hR1, hS1⟩]
    rfl
  · have := hm R (List.mem_of_getElem? hR1)
    have := hm' S (List.mem_of_getElem? hS1)
    obtain ⟨v1, hv1, q1⟩ := allR_of (m.mo sc hR) hR1
    obtain ⟨v2, hv2, q2⟩ := allR_of (m'.mo sc hR') hS1
    rw [hu] at hv1
    rw [hw] at hv2
    cases hv1
    cases hv2
    exact pair_new sh hp q1 q2
theorem Di.enum {ta : TA} [m : MoA Rs] (hm : ∀ R ∈ Rs, Mo R) (h : Da ta σ B [lstR K Rs]) : Di (iEnum K ta) σ B (Rs.zipIdx.map fun p => tupR K [dat K (.int (p.2 : Int)), p.1]) := fun B1 H s1 s2 Q q => h B1 H s1 s2 _ fun vs B2 H2 e hv => by
  obtain ⟨v, r, rfl, ⟨a, xs, rfl, hs, hR⟩, h5⟩ := hv
  have h5 : r = [] := h5
  subst h5
  refine ⟨a, xs, rfl, e.bh.seq hs, q _ B2 H2 e ?_⟩
  have len := allR_len hR
  unfold Wk
  rw [List.length_map, List.length_zipIdx, ← len]
  refine (walk_enum (K := K) (a := a) (xs := xs)).mono (fun H' s => s.seq hs) fun i H' x H'' hi s y => ?_
  obtain ⟨p, u, w, rfl, hp, rfl, hu, hw⟩ := y
  cases hu
  have hw : xs[i]? = some w := hw
  obtain ⟨R, hR1, _⟩ := allR_at hR hw
  refine ⟨tupR K [dat K (.int (i : Int)), R], ?_, fun Bc sc sh => ?_⟩
  · rw [List.getElem?_map, List.getElem?_zipIdx, hR1]
    simp
  · have := hm R (List.mem_of_getElem? hR1)
    obtain ⟨v1, hv1, q1⟩ := allR_of (m.mo sc hR) hR1
    rw [hw] at hv1
    cases hv1
    exact pair_new sh hp (Dp.int _) q1

/-! ### loops -/
/-- what is wanted behind a turn -/
def Nx (B1 : Hp) (P : L2.St → Hp → Hp → Prop) : L2.St → Hp → Prop := fun σ H => ∃ B', Same B1 B' ∧ Same B' H ∧ P σ B' H
theorem s_for {wi : TI} {g : TG} {ts : TS} {D : Ends} {H : Hp} (hi : Di wi σ B Rs) (hB : Same B H) (Pv : Nat → L2.St → Hp → Hp → Prop) (h0 : ∀ B' H', Ext B H B' H' → Pv 0 σ B' H')
    (hs : ∀ B1 i R v σ' Bc Hc Bn Hn, Same B B1 → Same B1 Bc → Rs[i]? = some R → Pv i σ' Bc Hc → Ext Bc Hc Bn Hn → R Bn v → g v σ' Hn fun σ2 H2 => ts { D with nx := Nx B1 (Pv (i + 1)), ct := Nx B1 (Pv (i + 1)), bk := D.nx } σ2 H2)
    (hd : ∀ σ' B' H', Same B B' → Same B' H' → Pv Rs.length σ' B' H' → D.nx σ' H') : tFor wi g ts D σ H :=
  hi B H (Same.refl _) hB _ fun J B1 H1 e hw => for_it hw (fun i σ' H' => Nx B1 (Pv i) σ' H') ⟨B1, Same.refl _, e.bh, h0 B1 H1 e⟩ (fun i σ' H' _ ⟨B', s1, s2, _⟩ => s1.trans s2)
    (fun i x σ' H' H'' hi ⟨Bc, s1, s2, p⟩ ⟨R, hR, y⟩ => by
      obtain ⟨Bn, e2, hx⟩ := y Bc s1 s2
      exact hs B1 i R x σ' Bc H' Bn H'' e.bb s1 hR p e2 hx)
    (fun σ' H' ⟨B', s1, s2, p⟩ => hd σ' B' H' (e.bb.trans s1) s2 p)

/-! ### comprehensions -/
theorem De.lc {α : Type} {as : List α} {r : α → Rel} {wi : TI} {g : TG} {vs : List Nat} (hi : Di wi σ B (as.map r)) (p : α → Bool) (o : α → Rel) [mo : ∀ a, Mo (o a)] (hz : as.length < sizeLine)
    (turn : ∀ a v Bn H, a ∈ as → Same B Bn → Same Bn H → r a Bn v → ∃ σ2, (∀ Q : L2.St → Hp → Prop, Q σ2 H → g v (wipe σ vs) H Q) ∧ wipe σ2 vs = wipe σ vs ∧ Dt tt σ2 Bn (p a) ∧ (p a = true → De te σ2 Bn (o a))) :
    De (tLc wi g tt te vs) σ B (lstR K ((as.filter p).map o)) := fun B1 H s1 s2 Q q => hi B1 H s1 s2 _ fun J B2 H2 e hw => fun D hD => by
  have moA : ∀ l : List α, MoA (l.map o) := fun l => moA_of fun R h => by
    obtain ⟨a, _, rfl⟩ := List.mem_map.mp h
    exact mo a
  have hw' : Walk J as.length (fun H => Same B2 H) (fun i H x H' => ∃ R, (as.map r)[i]? = some R ∧ ∀ Bc, Same B2 Bc → Same Bc H → ∃ Bn, Ext Bc H Bn H' ∧ R Bn x) := by
    have := hw
    unfold Wk at this
    rw [List.length_map] at this
    exact this
  refine lc_it hw' (fun i H' => ∃ B' xs, Ext B2 H2 B' H' ∧ B' D = none ∧ H' D = some (.lst xs) ∧ xs.length ≤ i ∧ AllR (((as.take i).filter p).map o) B' xs) ?_ (fun i H' _ ⟨B', xs, e', _⟩ => e'.bb.trans e'.bh) ?_ ?_
  · exact ⟨B2, [], .own e.bh hD, e.bh.free hD, upd_same, Nat.le_refl _, by rw [List.take_zero]; rfl⟩
  · rintro i x H' H'' hi' ⟨B', xs, e', nD, atD, few, hxs⟩ ⟨R, hR, y⟩
    obtain ⟨Bn, e2, hx⟩ := y B' e'.bb e'.bh
    rw [List.getElem?_map] at hR
    obtain ⟨a, ha, rfl⟩ := Option.map_eq_some_iff.mp hR
    obtain ⟨σ2, t1, t2, t3, t4⟩ := turn a x Bn H'' (List.mem_of_getElem? ha) (((s1.trans e.bb).trans e'.bb).trans e2.bb) e2.bh hx
    have atD2 := e2.hh _ _ atD
    have nD2 : Bn D = none := e2.nw D (by rw [atD]; exact fun z => nomatch z) nD
    have tk : as.take (i + 1) = as.take i ++ [a] := by rw [List.take_succ, ha]; rfl
    refine t1 _ ⟨t2, t3 Bn H'' (Same.refl _) e2.bh _ fun B3 H3 e3 => ?_⟩
    have atD3 := e3.hh _ _ atD2
    have nD3 : B3 D = none := e3.nw D (by rw [atD2]; exact fun z => nomatch z) nD2
    have e13 := (e'.trans e2).trans e3
    cases hp : p a with
    | true =>
      refine t4 hp B3 H3 e3.bb e3.bh _ fun y B4 H4 e4 hy => ?_
      have atD4 := e4.hh _ _ atD3
      have nD4 : B4 D = none := e4.nw D (by rw [atD3]; exact fun z => nomatch z) nD3
      have e14 := e13.trans e4
      refine ⟨xs, atD4, by omega, B4, xs ++ [y], ⟨fun b u hb => ?_, e14.bb, fun b u hb => ?_, e14.nw⟩, nD4, upd_same, by simp; omega, ?_⟩
      · rw [upd_ne (ne_of_none hb hD)]
        exact e14.hh b u hb
      · rw [upd_ne (ne_of_none hb nD4)]
        exact e14.bh b u hb
      · rw [tk, List.filter_append, List.map_append]
        have : [a].filter p = [a] := by simp [hp]
        rw [this]
        exact allR_snoc ((moA _).mo ((e2.bb.trans e3.bb).trans e4.bb) hxs) hy
    | false =>
      refine ⟨B3, xs, e13, nD3, atD3, by omega, ?_⟩
      rw [tk, List.filter_append]
      have : [a].filter p = [] := by simp [hp]
      rw [this, List.append_nil]
      exact (moA _).mo (e2.bb.trans e3.bb) hxs
  · rintro H' ⟨B', xs, e', nD, atD, few, hxs⟩
    rw [List.take_length] at hxs
    refine q (.ref D) (upd B' D (.lst xs)) H' ⟨e.hh.trans e'.hh, (e.bb.trans e'.bb).trans (new_same nD), fun b u hb => ?_, fun b h1 h2 => ?_⟩ ⟨D, xs, rfl, SqL.of upd_same, (moA _).mo (new_same nD) hxs⟩
    · by_cases z : b = D
      · subst z
        rw [upd_same] at hb
        cases hb
        exact atD
      · rw [upd_ne z] at hb
        exact e'.bh b u hb
    · have z : b ≠ D := by
        rintro rfl
        cases w : H b with
        | none => exact h1 w
        | some u =>
          rw [e.hh b u w] at hD
          cases hD
      rw [upd_ne z]
      exact (e.trans e').nw b h1 h2
/-- .. of data -/
theorem De.lcD {α : Type} {as : List α} {r : α → Rel} {wi : TI} {g : TG} {vs : List Nat} (hi : Di wi σ B (as.map r)) (p : α → Bool) (o : α → PyData) (hz : as.length < sizeLine)
    (turn : ∀ a v Bn H, a ∈ as → Same B Bn → Same Bn H → r a Bn v → ∃ σ2, (∀ Q : L2.St → Hp → Prop, Q σ2 H → g v (wipe σ vs) H Q) ∧ wipe σ2 vs = wipe σ vs ∧ Dt tt σ2 Bn (p a) ∧ (p a = true → De te σ2 Bn (dat K (o a)))) :
    De (tLc wi g tt te vs) σ B (dat K (.list ((as.filter p).map o))) :=
  (De.lc (K := K) hi p (fun a => dat K (o a)) hz turn).conv fun B' v h => lstR_dat (by rw [List.map_map]; exact h)
/-- without a test -/
theorem De.lcA {α : Type} {as : List α} {r : α → Rel} {wi : TI} {g : TG} {vs : List Nat} (hi : Di wi σ B (as.map r)) (o : α → PyData) (hz : as.length < sizeLine)
    (turn : ∀ a v Bn H, a ∈ as → Same B Bn → Same Bn H → r a Bn v → ∃ σ2, (∀ Q : L2.St → Hp → Prop, Q σ2 H → g v (wipe σ vs) H Q) ∧ wipe σ2 vs = wipe σ vs ∧ De te σ2 Bn (dat K (o a))) :
    De (tLc wi g tYes te vs) σ B (dat K (.list (as.map o))) := by
  have := De.lcD (K := K) (tt := tYes) (te := te) hi (fun _ => true) o hz fun a v Bn H h1 h2 h3 h4 => by
    obtain ⟨σ2, t1, t2, t3⟩ := turn a v Bn H h1 h2 h3 h4
    exact ⟨σ2, t1, t2, .yes, fun _ => t3⟩
  rw [List.filter_eq_self.mpr (fun _ _ => rfl)] at this
  exact this
/-- a pair is taken apart -/
theorem gTup2 {Bn H : Hp} {v : V} {R S : Rel} {σ1 : L2.St} {i j : Nat} (s : Same Bn H) (h : tupR K [R, S] Bn v) : ∃ x y, R Bn x ∧ S Bn y ∧ ∀ Q : L2.St → Hp → Prop, Q ((σ1.set i (some x)).set j (some y)) H → gTup K 2 (gCons (gName i) (gCons (gName j) gNil)) v σ1 H Q := by
  obtain ⟨a, xs, rfl, hs, x, r, rfl, hx, y, r', rfl, hy, hr⟩ := h
  have hr : r' = [] := hr
  subst hr
  exact ⟨x, y, hx, hy, fun Q q => ⟨a, _, rfl, seqT s hs, rfl, x, [y], rfl, y, [], rfl, rfl, q⟩⟩
theorem dat_pair {d e : PyData} {Bn : Hp} {v : V} (h : dat K (.tuple [d, e]) Bn v) : tupR K [dat K d, dat K e] Bn v := dat_tupR h

/-! ### built-in functions -/
theorem rc_len {ds : List PyData} : Rc (fun xs H Q => ∃ x n, xs = [x] ∧ LenV K x H n ∧ Q (.int n) H) B [dat K (.list ds)] (dat K (.int (ds.length : Int))) := fun vs B1 H _ s2 hv Q q => by
  obtain ⟨v, r, rfl, h, h2⟩ := hv
  have h2 : r = [] := h2
  subst h2
  obtain ⟨a, xs, rfl, hs, hR⟩ := dat_lstR h
  have len := allR_len hR
  rw [List.length_map] at len
  exact ⟨.ref a, ds.length, rfl, .inl ⟨xs, s2.seq hs, len.symm⟩, q _ B1 H (.refl s2) (.int _)⟩
theorem rc_lenT {ds : List PyData} : Rc (fun xs H Q => ∃ x n, xs = [x] ∧ LenV K x H n ∧ Q (.int n) H) B [dat K (.tuple ds)] (dat K (.int (ds.length : Int))) := fun vs B1 H _ s2 hv Q q => by
  obtain ⟨v, r, rfl, h, h2⟩ := hv
  have h2 : r = [] := h2
  subst h2
  obtain ⟨a, xs, rfl, hs, hR⟩ := dat_tupR h
  have len := allR_len hR
  rw [List.length_map] at len
  exact ⟨.ref a, ds.length, rfl, .inr ⟨xs, seqT s2 hs, len.symm⟩, q _ B1 H (.refl s2) (.int _)⟩
theorem rc_lenS {z : Str} (hz : z.length ≤ sizeLine) : Rc (fun xs H Q => ∃ x n, xs = [x] ∧ LenV K x H n ∧ Q (.int n) H) B [dat K (.str z)] (dat K (.int (z.length : Int))) := fun vs B1 H _ s2 hv Q q => by
  obtain ⟨v, r, rfl, h, h2⟩ := hv
  have h2 : r = [] := h2
  subst h2
  have h := dat_str h
  subst h
  exact ⟨.str z, z.length, rfl, ⟨hz, rfl⟩, q _ B1 H (.refl s2) (.int _)⟩
theorem rc_show {d : PyData} (h : Shw d) : Rc (rShow K) B [dat K d] (dat K (.str d.shown)) := fun vs B1 H _ s2 hv Q q => by
  obtain ⟨v, r, rfl, hv, h2⟩ := hv
  have h2 : r = [] := h2
  subst h2
  exact ⟨v, d, rfl, dpMono s2 _ _ hv, h.1, h.2.1, h.2.2.1, h.2.2.2, q _ B1 H (.refl s2) (.str _)⟩
theorem rc_tupL {Rs : List Rel} [m : MoA Rs] : Rc (fun xs H Q => ∃ p ys, xs = [.ref p] ∧ ((SqL K H p ys ∧ ∀ l, H l = none → Q (.ref l) (upd H l (.tup ys))) ∨ (SqT K H p ys ∧ Q (.ref p) H))) B [lstR K Rs] (tupR K Rs) := fun vs B1 H _ s2 hv Q q => by
  obtain ⟨v, r, rfl, ⟨a, xs, rfl, hs, hR⟩, h2⟩ := hv
  have h2 : r = [] := h2
  subst h2
  exact ⟨a, xs, rfl, .inl ⟨s2.seq hs, fun p hp => q _ (upd B1 p (.tup xs)) _ (.new s2 hp) ⟨p, xs, rfl, SqT.of upd_same, m.mo (new_same (s2.free hp)) hR⟩⟩⟩
theorem rc_tupT {Rs : List Rel} [m : MoA Rs] : Rc (fun xs H Q => ∃ p ys, xs = [.ref p] ∧ ((SqL K H p ys ∧ ∀ l, H l = none → Q (.ref l) (upd H l (.tup ys))) ∨ (SqT K H p ys ∧ Q (.ref p) H))) B [tupR K Rs] (tupR K Rs) := fun vs B1 H _ s2 hv Q q => by
  obtain ⟨v, r, rfl, ⟨a, xs, rfl, hs, hR⟩, h2⟩ := hv
  have h2 : r = [] := h2
  subst h2
  exact ⟨a, xs, rfl, .inr ⟨seqT s2 hs, q _ B1 H (.refl s2) ⟨a, xs, rfl, hs, hR⟩⟩⟩
theorem rc_lstL {Rs : List Rel} [m : MoA Rs] : Rc (fun xs H Q => ∃ p ys, xs = [.ref p] ∧ (SqL K H p ys ∨ SqT K H p ys) ∧ ∀ l, H l = none → Q (.ref l) (upd H l (.lst ys))) B [lstR K Rs] (lstR K Rs) := fun vs B1 H _ s2 hv Q q => by
  obtain ⟨v, r, rfl, ⟨a, xs, rfl, hs, hR⟩, h2⟩ := hv
  have h2 : r = [] := h2
  subst h2
  exact ⟨a, xs, rfl, .inl (s2.seq hs), fun p hp => q _ (upd B1 p (.lst xs)) _ (.new s2 hp) ⟨p, xs, rfl, SqL.of upd_same, m.mo (new_same (s2.free hp)) hR⟩⟩
theorem rc_lstT {Rs : List Rel} [m : MoA Rs] : Rc (fun xs H Q => ∃ p ys, xs = [.ref p] ∧ (SqL K H p ys ∨ SqT K H p ys) ∧ ∀ l, H l = none → Q (.ref l) (upd H l (.lst ys))) B [tupR K Rs] (lstR K Rs) := fun vs B1 H _ s2 hv Q q => by
  obtain ⟨v, r, rfl, ⟨a, xs, rfl, hs, hR⟩, h2⟩ := hv
  have h2 : r = [] := h2
  subst h2
  exact ⟨a, xs, rfl, .inr (seqT s2 hs), fun p hp => q _ (upd B1 p (.lst xs)) _ (.new s2 hp) ⟨p, xs, rfl, SqL.of upd_same, m.mo (new_same (s2.free hp)) hR⟩⟩
theorem rc_sorted {ds : List PyData} (hal : PySem.W.AllAlike ds) (hk : PySem.W.SortOk ds) (hd : ∀ d ∈ ds, d.depth ≤ 60) : Rc (rSortedD K) B [dat K (.list ds)] (dat K (.list (sortD ds))) := fun vs B1 H _ s2 hv Q q => by
  obtain ⟨v, r, rfl, h, h2⟩ := hv
  have h2 : r = [] := h2
  subst h2
  obtain ⟨a, xs, rfl, hs, hR⟩ := dat_lstR h
  have g := allR_dp hR
  exact ⟨a, xs, ds, rfl, s2.seq hs, dpMonoAll s2 _ _ g, hal, hk, hd, fun p hp => q _ (upd B1 p (.lst (sortV xs ds))) _ (.new s2 hp) (.lst (SqL.of upd_same) (dpMonoAll (new_same (s2.free hp)) _ _ (dp_sort g)))⟩
/-- lists and tuples of data, by what they are -/
theorem Da.one {d : PyData} (h : De ta σ B (dat K d)) : Da (tCons ta tNil) σ B [dat K d] := .cons h .nil

/-! ### objects that never change -/
def AllF : List (Str × Rel) → Hp → List (Str × V) → Prop
  | [], _, us => us = []
  | (f, R) :: r, B, us => ∃ v u, us = (f, v) :: u ∧ R B v ∧ AllF r B u
class MoF (fs : List (Str × Rel)) : Prop where
  mo : ∀ {B B' : Hp} {us : List (Str × V)}, Same B B' → AllF fs B us → AllF fs B' us
instance : MoF [] := ⟨fun _ h => h⟩
instance {f : Str} {R : Rel} {r : List (Str × Rel)} [m : Mo R] [t : MoF r] : MoF ((f, R) :: r) := ⟨fun s ⟨v, u, e, h, g⟩ => ⟨v, u, e, m.mo s h, t.mo s g⟩⟩
def insR (C : Addr) (fs : List (Str × Rel)) : Rel := fun B v => ∃ a dx us, v = .ref a ∧ B a = some (.ins C dx us) ∧ AllF fs B us
instance {C : Addr} {fs : List (Str × Rel)} [m : MoF fs] : Mo (insR C fs) := ⟨fun s ⟨a, dx, us, e, h, g⟩ => ⟨a, dx, us, e, s _ _ h, m.mo s g⟩⟩
theorem allF_get {f : Str} : ∀ {fs : List (Str × Rel)} {us : List (Str × V)}, AllF fs B us → fs.lookup f = some R → ∃ v, us.lookup f = some v ∧ R B v
  | (g, S) :: r, _, ⟨v, u, e, h, t⟩, z => by
    subst e
    simp only [List.lookup] at *
    cases q : f == g with
    | true =>
      rw [q] at z
      cases z
      exact ⟨v, rfl, h⟩
    | false =>
      rw [q] at z
      exact allF_get t z
theorem De.fld {C : Addr} {f : Str} {fs : List (Str × Rel)} (he : De te σ B (insR C fs)) (c : Cls K C) (n : NoAttr K C f) (hf : fs.lookup f = some R) : De (tFld K te f) σ B R := fun B1 H s1 s2 Q q => he B1 H s1 s2 _ fun v B2 H2 e hv => by
  obtain ⟨a, dx, us, rfl, h, g⟩ := hv
  obtain ⟨x, hx, hR⟩ := allF_get g hf
  exact ⟨a, C, dx, us, x, rfl, e.bh _ _ h, c, n, hx, q x B2 H2 e hR⟩
/-- __init__ that keeps its arguments -/
def spIns (C : Addr) (fs : List Str) : Sp := fun vs H Q _ => ∃ (x dx : Addr) (us : List V), vs = .ref x :: us ∧ us.length = fs.length ∧ H x = some (.ins C dx []) ∧ Q .non (upd H x (.ins C dx (fs.zip us)))
theorem allF_zip : ∀ {fs : List Str} {Rs : List Rel} {us : List V}, fs.length = Rs.length → AllR Rs B us → AllF (fs.zip Rs) B (fs.zip us)
  | [], [], _, _, _ => rfl
  | f :: fs, R :: Rs, _, h, ⟨v, u, e, g, t⟩ => by
    subst e
    exact ⟨v, _, rfl, g, allF_zip (by simpa using h) t⟩
theorem upd_over {H : Hp} {x d : Addr} {o p q : HO} : upd (upd (upd H d p) x o) x q = upd (upd H d p) x q := by
  funext b
  unfold upd
  by_cases h : b = x
  · rw [if_pos h, if_pos h]
  · rw [if_neg h, if_neg h, if_neg h]
theorem De.make {C : Addr} {fs : List Str} {E : XK} {ta : TA} [m : MoA Rs] (ha : Da ta σ B Rs) (hl : fs.length = Rs.length) : De (tMake C (spIns C fs) [] E ta) σ B (insR C (fs.zip Rs)) := fun B1 H s1 s2 Q q =>
  ha B1 H s1 s2 _ fun vs B2 H2 e hv => fun x dx hx hd ne => by
    have len := allR_len hv
    refine ⟨x, dx, vs, by rw [List.append_nil], by omega, upd_same, rfl, ?_⟩
    rw [upd_over]
    have e1 : Ext B2 H2 B2 (upd H2 dx (.own x)) := .own e.bh hd
    have hx1 : upd H2 dx (.own x) x = none := by
      rw [upd_ne ne.symm]
      exact hx
    have e2 := Ext.new (o := .ins C dx (fs.zip vs)) e1.bh hx1
    exact q _ _ _ ((e.trans e1).trans e2) ⟨x, dx, _, rfl, upd_same, allF_zip hl (m.mo (new_same (e.bh.free hx)) hv)⟩
end
end Wv

set_option Elab.async false
set_option linter.all false
set_option maxRecDepth 100000
set_option maxHeartbeats 4000000
/-! Wv2: comprehensions with two fors, list(range), classes by their names, data args. -/
namespace Wv
open PySem PySem.Spec PyProof.Rows L2 Wb
section
variable {K : PySem.W.Frag} {σ : L2.St} {B B' : Hp} {ta tb te tl : TE} {tt tu : TT} {R S T U : Rel} {Rs : List Rel} {x v : V}
theorem stays {B H B' H' : Hp} {D : Addr} {o : HO} (e : Ext B H B' H') (h : H D = some o) (n : B D = none) : H' D = some o ∧ B' D = none :=
  ⟨e.hh _ _ h, e.nw D (by rw [h]; exact fun z => nomatch z) n⟩
/-- one more in a list that is being made -/
theorem grown {B2 H2 B4 H4 : Hp} {D : Addr} {xs : List V} {y : V} (hD : H2 D = none) (e : Ext B2 H2 B4 H4) (n : B4 D = none) : Ext B2 H2 B4 (upd H4 D (.lst (xs ++ [y]))) :=
  ⟨fun b u hb => by
    rw [upd_ne (ne_of_none hb hD)]
    exact e.hh b u hb, e.bb, fun b u hb => by
    rw [upd_ne (ne_of_none hb n)]
    exact e.bh b u hb, e.nw⟩
theorem De.lc2D {α β : Type} {as : List α} {r : α → Rel} {wi wi1 : TI} {g g1 : TG} {vs vs1 : List Nat} (hi : Di wi σ B (as.map r)) (bs : α → List β) (r1 : α → β → Rel) (o : α → β → PyData) (hz : (as.flatMap fun a => (bs a).map (o a)).length < sizeLine)
    (turn : ∀ a v Bn H, a ∈ as → Same B Bn → Same Bn H → r a Bn v → ∃ σ2, (∀ Q : L2.St → Hp → Prop, Q σ2 H → g v (wipe σ vs) H Q) ∧ wipe σ2 vs = wipe σ vs ∧ Di wi1 σ2 Bn ((bs a).map (r1 a)) ∧
      ∀ b v' Bm H', b ∈ bs a → Same Bn Bm → Same Bm H' → r1 a b Bm v' → ∃ σ3, (∀ Q : L2.St → Hp → Prop, Q σ3 H' → g1 v' (wipe σ2 vs1) H' Q) ∧ wipe σ3 vs1 = wipe σ2 vs1 ∧ De te σ3 Bm (dat K (o a b))) :
    De (tLc2 wi g tYes wi1 g1 tYes te vs vs1) σ B (dat K (.list (as.flatMap fun a => (bs a).map (o a)))) := fun B1 H s1 s2 Q q => hi B1 H s1 s2 _ fun J B2 H2 e hw => fun D hD => by
  have w : Walk J as.length (fun H => Same B2 H) (fun i H x H' => ∃ R, (as.map r)[i]? = some R ∧ ∀ Bc, Same B2 Bc → Same Bc H → ∃ Bn, Ext Bc H Bn H' ∧ R Bn x) := by
    have := hw
    unfold Wk at this
    rw [List.length_map] at this
    exact this
  have part : ∀ i, i ≤ as.length → ((as.take i).flatMap fun a => (bs a).map (o a)).length ≤ (as.flatMap fun a => (bs a).map (o a)).length := fun i _ => by
    conv => rhs; rw [← List.take_append_drop i as, List.flatMap_append, List.length_append]
    omega
  refine ⟨fun i m H' => m = as.length - i ∧ i ≤ as.length ∧ ∃ B' xs, Ext B2 H2 B' H' ∧ B' D = none ∧ H' D = some (.lst xs) ∧ AllR (((as.take i).flatMap fun a => (bs a).map (o a)).map (dat K)) B' xs,
    ⟨as.length, rfl, Nat.zero_le _, B2, [], .own e.bh hD, e.bh.free hD, upd_same, by rw [List.take_zero]; rfl⟩, ?_⟩
  rintro i m H' ⟨rfl, le, B', xs, e', nD, atD, hxs⟩
  by_cases lt : i < as.length
  · refine .inr ⟨w.goes i H' lt (e'.bb.trans e'.bh), fun H'' => ∃ B' xs, Ext B2 H2 B' H'' ∧ B' D = none ∧ H'' D = some (.lst xs) ∧ AllR (((as.take (i + 1)).flatMap fun a => (bs a).map (o a)).map (dat K)) B' xs,
      fun H'' h => ⟨as.length - (i + 1), by omega, rfl, lt, h⟩, fun x H'' y => ?_⟩
    obtain ⟨R, hR, y⟩ := w.yields i H' x H'' lt (e'.bb.trans e'.bh) y
    obtain ⟨Bn, e2, hx⟩ := y B' e'.bb e'.bh
    rw [List.getElem?_map] at hR
    obtain ⟨a, ha, rfl⟩ := Option.map_eq_some_iff.mp hR
    obtain ⟨σ2, t1, t2, t3, t4⟩ := turn a x Bn H'' (List.mem_of_getElem? ha) (((s1.trans e.bb).trans e'.bb).trans e2.bb) e2.bh hx
    obtain ⟨atD2, nD2⟩ := stays e2 atD nD
    have tk : as.take (i + 1) = as.take i ++ [a] := by rw [List.take_succ, ha]; rfl
    have pt := part (i + 1) lt
    rw [tk, List.flatMap_append, List.length_append] at pt
    have e1f : ([a].flatMap fun a => (bs a).map (o a)) = (bs a).map (o a) := by simp
    rw [e1f, List.length_map] at pt
    refine t1 _ ⟨t2, ?_⟩
    show wi1 σ2 H'' _
    refine t3 Bn H'' (Same.refl _) e2.bh _ fun J1 Bm H4 e3 hw1 => ?_
    have w1 : Walk J1 (bs a).length (fun H => Same Bm H) (fun i H x H' => ∃ R, ((bs a).map (r1 a))[i]? = some R ∧ ∀ Bc, Same Bm Bc → Same Bc H → ∃ Bn, Ext Bc H Bn H' ∧ R Bn x) := by
      have := hw1
      unfold Wk at this
      rw [List.length_map] at this
      exact this
    obtain ⟨atD3, nD3⟩ := stays e3 atD2 nD2
    have e13 := (e'.trans e2).trans e3
    refine ⟨fun j k H5 => k = (bs a).length - j ∧ j ≤ (bs a).length ∧ ∃ B5 ys, Ext B2 H2 B5 H5 ∧ Same Bm B5 ∧ B5 D = none ∧ H5 D = some (.lst ys) ∧ AllR ((((as.take i).flatMap fun a => (bs a).map (o a)) ++ ((bs a).take j).map (o a)).map (dat K)) B5 ys,
      ⟨(bs a).length, rfl, Nat.zero_le _, Bm, xs, e13, Same.refl _, nD3, atD3, ?_⟩, ?_⟩
    · rw [List.take_zero, List.map_nil, List.append_nil]
      exact MoA.mo (e2.bb.trans e3.bb) hxs
    rintro j k H5 ⟨rfl, le1, B5, ys, e5, sm, nD5, atD5, hys⟩
    by_cases lt1 : j < (bs a).length
    · refine .inr ⟨w1.goes j H5 lt1 (sm.trans e5.bh), fun H6 => ∃ B5 ys, Ext B2 H2 B5 H6 ∧ Same Bm B5 ∧ B5 D = none ∧ H6 D = some (.lst ys) ∧ AllR ((((as.take i).flatMap fun a => (bs a).map (o a)) ++ ((bs a).take (j + 1)).map (o a)).map (dat K)) B5 ys,
        fun H6 h => ⟨(bs a).length - (j + 1), by omega, rfl, lt1, h⟩, fun x' H6 y' => ?_⟩
      obtain ⟨R', hR', y'⟩ := w1.yields j H5 x' H6 lt1 (sm.trans e5.bh) y'
      obtain ⟨B6, e6, hx'⟩ := y' B5 sm e5.bh
      rw [List.getElem?_map] at hR'
      obtain ⟨b, hb, rfl⟩ := Option.map_eq_some_iff.mp hR'
      obtain ⟨σ3, u1, u2, u3⟩ := t4 b x' B6 H6 (List.mem_of_getElem? hb) ((e3.bb.trans sm).trans e6.bb) e6.bh hx'
      obtain ⟨atD6, nD6⟩ := stays e6 atD5 nD5
      refine u1 _ ⟨u2, ?_⟩
      show te σ3 H6 _
      refine u3 B6 H6 (Same.refl _) e6.bh _ fun y7 B7 H7 e7 hy7 => ?_
      obtain ⟨atD7, nD7⟩ := stays e7 atD6 nD6
      have len := allR_len hys
      rw [List.length_map, List.length_append, List.length_map, List.length_take] at len
      have tk1 : (bs a).take (j + 1) = (bs a).take j ++ [b] := by rw [List.take_succ, hb]; rfl
      refine ⟨ys, atD7, by omega, B7, ys ++ [y7], grown hD ((e5.trans e6).trans e7) nD7, (sm.trans e6.bb).trans e7.bb, nD7, upd_same, ?_⟩
      have eq : ((as.take i).flatMap fun a => (bs a).map (o a)) ++ ((bs a).take (j + 1)).map (o a) = (((as.take i).flatMap fun a => (bs a).map (o a)) ++ ((bs a).take j).map (o a)) ++ [o a b] := by
        rw [tk1, List.map_append, ← List.append_assoc]
        rfl
      rw [eq, List.map_append (l₂ := [o a b])]
      exact allR_snoc (MoA.mo (e6.bb.trans e7.bb) hys) hy7
    · have : j = (bs a).length := by omega
      subst this
      refine .inl ⟨w1.stops H5 (sm.trans e5.bh), B5, ys, e5, nD5, atD5, ?_⟩
      rw [List.take_length] at hys
      rw [tk, List.flatMap_append, e1f]
      exact hys
  · have : i = as.length := by omega
    subst this
    refine .inl ⟨w.stops H' (e'.bb.trans e'.bh), ?_⟩
    rw [List.take_length] at hxs
    refine q (.ref D) (upd B' D (.lst xs)) H' ⟨e.hh.trans e'.hh, (e.bb.trans e'.bb).trans (new_same nD), fun b u hb => ?_, fun b h1 h2 => ?_⟩ (lstR_dat ⟨D, xs, rfl, SqL.of upd_same, MoA.mo (new_same nD) hxs⟩)
    · by_cases z : b = D
      · subst z
        rw [upd_same] at hb
        cases hb
        exact atD
      · rw [upd_ne z] at hb
        exact e'.bh b u hb
    · have z : b ≠ D := by
        rintro rfl
        cases w : H b with
        | none => exact h1 w
        | some u =>
          rw [e.hh b u w] at hD
          cases hD
      rw [upd_ne z]
      exact (e.trans e').nw b h1 h2
/-- walks over data that stands for things -/
theorem Di.conv {wi : TI} {Ss : List Rel} (h : Di wi σ B Rs) (e : Rs = Ss) : Di wi σ B Ss := e ▸ h
theorem Di.listM {α : Type} {as : List α} {f : α → PyData} (h : De tl σ B (dat K (.list (as.map f)))) : Di (iList K tl) σ B (as.map fun a => dat K (f a)) := (Di.listD h).conv (by rw [List.map_map]; rfl)
theorem Di.tupM {α : Type} {as : List α} {f : α → PyData} (h : De tl σ B (dat K (.tuple (as.map f)))) : Di (iTup K tl) σ B (as.map fun a => dat K (f a)) := (Di.tupD h).conv (by rw [List.map_map]; rfl)
theorem rangeI {lo : Int} {n : Nat} : intsR K lo n = (List.range n).map fun i : Nat => dat K (.int (lo + (i : Int))) := rfl
theorem Di.rng {ta : TE} {n : Nat} (h : De ta σ B (dat K (.int (n : Int)))) (h1 : n < 2 ^ 62) : Di (iRng1 (tCons ta tNil)) σ B ((List.range n).map fun i : Nat => dat K (.int (i : Int))) := by
  have := Di.rng1 (K := K) (Da.one h) (by omega) (by omega)
  refine this.conv ?_
  unfold intsR
  have e : ((n : Int)).toNat = n := by omega
  rw [e]
  exact List.map_congr_left fun i _ => by rw [Int.zero_add]
/-- data, one after another -/
def Dd (K : PySem.W.Frag) (ta : TA) (σ : L2.St) (B : Hp) (ds : List PyData) : Prop := Da ta σ B (ds.map (dat K))
theorem Dd.nil : Dd K tNil σ B [] := Da.nil
theorem Dd.cons {tr : TA} {d : PyData} {ds : List PyData} (h : De ta σ B (dat K d)) (t : Dd K tr σ B ds) : Dd K (tCons ta tr) σ B (d :: ds) := Da.cons h t
theorem De.tupD {ta : TA} {ds : List PyData} (h : Dd K ta σ B ds) (hz : ds.length ≤ sizeLine) : De (tTup ta) σ B (dat K (.tuple ds)) := (De.tup h (by rw [List.length_map]; exact hz)).conv fun _ _ => tupR_dat
theorem De.lstD {ta : TA} {ds : List PyData} (h : Dd K ta σ B ds) (hz : ds.length ≤ sizeLine) : De (tLst ta) σ B (dat K (.list ds)) := (De.lst h (by rw [List.length_map]; exact hz)).conv fun _ _ => lstR_dat
/-- tuple(list), tuple(tuple), list(..) -/
theorem De.tupleL {ta : TE} {ds : List PyData} (h : De ta σ B (dat K (.list ds))) : De (tCB (fun xs H Q => ∃ p ys, xs = [.ref p] ∧ ((SqL K H p ys ∧ ∀ l, H l = none → Q (.ref l) (upd H l (.tup ys))) ∨ (SqT K H p ys ∧ Q (.ref p) H))) (tCons ta tNil)) σ B (dat K (.tuple ds)) :=
  (De.cb (.cons (h.conv fun _ _ => dat_lstR) .nil) rc_tupL).conv fun _ _ => tupR_dat
theorem De.tupleT {ta : TE} {ds : List PyData} (h : De ta σ B (dat K (.tuple ds))) : De (tCB (fun xs H Q => ∃ p ys, xs = [.ref p] ∧ ((SqL K H p ys ∧ ∀ l, H l = none → Q (.ref l) (upd H l (.tup ys))) ∨ (SqT K H p ys ∧ Q (.ref p) H))) (tCons ta tNil)) σ B (dat K (.tuple ds)) :=
  (De.cb (.cons (h.conv fun _ _ => dat_tupR) .nil) rc_tupT).conv fun _ _ => tupR_dat
theorem De.listL {ta : TE} {ds : List PyData} (h : De ta σ B (dat K (.list ds))) : De (tCB (fun xs H Q => ∃ p ys, xs = [.ref p] ∧ (SqL K H p ys ∨ SqT K H p ys) ∧ ∀ l, H l = none → Q (.ref l) (upd H l (.lst ys))) (tCons ta tNil)) σ B (dat K (.list ds)) :=
  (De.cb (.cons (h.conv fun _ _ => dat_lstR) .nil) rc_lstL).conv fun _ _ => lstR_dat
theorem De.listT {ta : TE} {ds : List PyData} (h : De ta σ B (dat K (.tuple ds))) : De (tCB (fun xs H Q => ∃ p ys, xs = [.ref p] ∧ (SqL K H p ys ∨ SqT K H p ys) ∧ ∀ l, H l = none → Q (.ref l) (upd H l (.lst ys))) (tCons ta tNil)) σ B (dat K (.list ds)) :=
  (De.cb (.cons (h.conv fun _ _ => dat_tupR) .nil) rc_lstT).conv fun _ _ => lstR_dat
theorem De.lenL {ta : TE} {ds : List PyData} (h : De ta σ B (dat K (.list ds))) : De (tCB (fun xs H Q => ∃ x n, xs = [x] ∧ LenV K x H n ∧ Q (.int n) H) (tCons ta tNil)) σ B (dat K (.int (ds.length : Int))) := .cb (.one h) rc_len
theorem De.lenT {ta : TE} {ds : List PyData} (h : De ta σ B (dat K (.tuple ds))) : De (tCB (fun xs H Q => ∃ x n, xs = [x] ∧ LenV K x H n ∧ Q (.int n) H) (tCons ta tNil)) σ B (dat K (.int (ds.length : Int))) := .cb (.one h) rc_lenT
theorem De.sorted {ta : TE} {ds : List PyData} (h : De ta σ B (dat K (.list ds))) (hal : PySem.W.AllAlike ds) (hk : PySem.W.SortOk ds) (hd : ∀ d ∈ ds, d.depth ≤ 60) : De (tCB (rSortedD K) (tCons ta tNil)) σ B (dat K (.list (sortD ds))) := .cb (.one h) (rc_sorted hal hk hd)
theorem De.show {ta : TE} {d : PyData} (h : De ta σ B (dat K d)) (hs : Shw d) : De (tCB (rShow K) (tCons ta tNil)) σ B (dat K (.str d.shown)) := .cb (.one h) (rc_show hs)
theorem De.listRg {ta : TE} {n : Nat} (h : De ta σ B (dat K (.int (n : Int)))) (h1 : n ≤ 1000000) : De (tLstRg (tRg1 ta)) σ B (dat K (.list ((List.range n).map fun i : Nat => .int (i : Int)))) := fun B1 H s1 s2 Q q => h B1 H s1 s2 _ fun v B2 H2 e hv => by
  have hv := dat_int hv
  subst hv
  refine ⟨n, rfl, RgOk.of_le (Int.le_refl 0) (by omega) (by decide) (by omega), fun p hp => ?_⟩
  have ev : rgV 0 (n : Int) = ((List.range n).map fun i : Nat => V.int (i : Int)) := by
    unfold rgV
    have e : ((n : Int) - 0).toNat = n := by omega
    rw [e]
    exact List.map_congr_left fun i _ => by rw [Int.zero_add]
  rw [ev]
  refine q _ (upd B2 p (.lst ((List.range n).map fun i : Nat => V.int (i : Int)))) _ (e.trans (.new e.bh hp)) ?_
  refine Dp.lst (SqL.of upd_same) ?_
  have : ∀ l : List Nat, DpAll K (upd B2 p (.lst ((List.range n).map fun i : Nat => V.int (i : Int)))) (l.map fun i : Nat => V.int (i : Int)) (l.map fun i : Nat => PyData.int (i : Int)) := by
    intro l
    induction l with
    | nil => exact .nil
    | cons i l ih => exact .cons (.int _) ih
  exact this _
theorem Rv.catS {xs ys : List PyData} (hz : xs.length + ys.length ≤ sizeLine) : Rv (rCatS K) B (dat K (.list xs)) (dat K (.list ys)) (dat K (.list (xs ++ ys))) := fun x y B1 H _ s2 hx hy Q q => by
  obtain ⟨a, us, rfl, h, g⟩ := dat_lstR hx
  obtain ⟨b, ws, rfl, h', g'⟩ := dat_lstR hy
  have l1 := allR_len g
  have l2 := allR_len g'
  rw [List.length_map] at l1 l2
  refine ⟨a, b, us, ws, rfl, rfl, s2.seq h, s2.seq h', by omega, fun p hp => ?_⟩
  refine q _ (upd B1 p (.lst (us ++ ws))) _ (.new s2 hp) ?_
  have s := new_same (o := .lst (us ++ ws)) (s2.free hp)
  exact .lst (SqL.of upd_same) (dpMonoAll s _ _ (allR_dp (by rw [List.map_append]; exact allR_app g g')))
theorem Rv.inT {d : PyData} {ds : List PyData} (hd : SeqAt.shaped d = true) (he : SeqAt.shaped (.tuple ds) = true) : Rv (rInT K false) B (dat K d) (dat K (.tuple ds)) (dat K (.bool (ds.any fun z => PyData.eqv z d))) := fun x y B1 H _ s2 hx hy Q q =>
  ⟨d, ds, dpMono s2 _ _ hx, dpMono s2 _ _ hy, hd, he, q _ B1 H (.refl s2) (Dp.bl _)⟩
theorem Rv.notInT {d : PyData} {ds : List PyData} (hd : SeqAt.shaped d = true) (he : SeqAt.shaped (.tuple ds) = true) : Rv (rInT K true) B (dat K d) (dat K (.tuple ds)) (dat K (.bool (!ds.any fun z => PyData.eqv z d))) := fun x y B1 H _ s2 hx hy Q q =>
  ⟨d, ds, dpMono s2 _ _ hx, dpMono s2 _ _ hy, hd, he, q _ B1 H (.refl s2) (Dp.bl _)⟩
theorem Rv.eqI {i j : Int} : Rv rEq B (dat K (.int i)) (dat K (.int j)) (dat K (.bool (decide (i = j)))) := fun x y B1 H _ s2 hx hy Q q => by
  have hx := dat_int hx
  have hy := dat_int hy
  subst hx hy
  have e : decide (V.int i = V.int j) = decide (i = j) := by simp
  refine ⟨rfl, ?_⟩
  rw [e]
  exact q _ B1 H (.refl s2) (Dp.bl _)
theorem Rv.neI {i j : Int} : Rv rNe B (dat K (.int i)) (dat K (.int j)) (dat K (.bool (!decide (i = j)))) := fun x y B1 H _ s2 hx hy Q q => by
  have hx := dat_int hx
  have hy := dat_int hy
  subst hx hy
  have e : decide (V.int i = V.int j) = decide (i = j) := by simp
  refine ⟨rfl, ?_⟩
  rw [e]
  exact q _ B1 H (.refl s2) (Dp.bl _)
theorem Rv.eqS {i j : Str} : Rv rEq B (dat K (.str i)) (dat K (.str j)) (dat K (.bool (decide (i = j)))) := fun x y B1 H _ s2 hx hy Q q => by
  have hx := dat_str hx
  have hy := dat_str hy
  subst hx hy
  have e : decide (V.str i = V.str j) = decide (i = j) := by simp
  refine ⟨rfl, ?_⟩
  rw [e]
  exact q _ B1 H (.refl s2) (Dp.bl _)
theorem Rv.neS {i j : Str} : Rv rNe B (dat K (.str i)) (dat K (.str j)) (dat K (.bool (!decide (i = j)))) := fun x y B1 H _ s2 hx hy Q q => by
  have hx := dat_str hx
  have hy := dat_str hy
  subst hx hy
  have e : decide (V.str i = V.str j) = decide (i = j) := by simp
  refine ⟨rfl, ?_⟩
  rw [e]
  exact q _ B1 H (.refl s2) (Dp.bl _)
end
section
variable (P : Program) (w : World) (K : PySem.W.Frag) (mg : Str → Option Value) (base : Heap)
/-- a class of objects that keep their arguments -/
structure CalC (x : Str) (C : Addr) (fs : List Str) : Prop where
  c : Cls K C
  g : mg x = some (.ref C)
  na : ∀ f ∈ fs, NoAttr K C f
  ini : ∃ (f : Addr) (fd : FuncData), Mk K C f ∧ FnOk P w K mg base CX0 1 f fd ("self" :: fs) (spIns C fs) ∧ Binds K fd ("self" :: fs) []
end
section
variable {X : Cx} {x : Str} {C : Addr} {fs : List Str} {k : Nat} {p pos : Pos} {e : Expr} {es : List Expr} {t : TA}
theorem pe_calC (c : CalC X.prog X.w X.K X.mg X.base x C fs) (hr : Room k X.A) (hk : 2 ≤ k) (hg : Gl X x) (ha : PA X (e :: es) t) (hdb : (x == ("__debug__" : Str)) = false := by decide)
    (he : starEach (e :: es) X.env = (false, eval e X.env) :: starEach es X.env := by rfl) (hpl : (backTo pos (starEach es X.env)).any (·.1) = false := by rfl) : PE X (.Call (.Name x p) (e :: es) [] pos) (tMake C (spIns C fs) [] E0 t) := by
  obtain ⟨f, fd, M, F, b⟩ := c.ini
  exact pe_make M F (hr.mono hk) hg c.g b .nil pass0 ha hdb he hpl
end
end Wv

set_option Elab.async false
set_option linter.all false
set_option maxRecDepth 100000
set_option maxHeartbeats 4000000
/-! Wv3: enumerate of a tuple, zip of tuples; promises by their arguments. -/
namespace Wb
open PySem PySem.Spec PyProof.Rows L2
/-- the tuple at a, each item in a new pair with its number -/
def IteT (K : PySem.W.Frag) (a : Addr) : It :=
  ⟨fun i H => ∃ (xs : List V) (x : V), SqT K H a xs ∧ xs[i]? = some x, fun i H v H' => ∃ T x, v = .ref T ∧ H T = none ∧ H' = upd H T (.tup [.int (i : Nat), x]) ∧ ∀ xs, SqT K H a xs → xs[i]? = some x, fun i H => ∃ xs : List V, SqT K H a xs ∧ xs.length ≤ i⟩
theorem two_mem {α : Type} {b x y : α} (h : b ∈ [x, y]) : b = x ∨ b = y := by simpa using h
theorem apart_tup {h : Heap} {it a : Addr} {i : Nat} {xs : Array Value} (h1 : h.IsTupleIter it a i) (h2 : h.IsTuple a xs) : a ≠ it := by
  rintro rfl
  obtain ⟨o, e, c, _⟩ := h1
  obtain ⟨o', e', c', _⟩ := h2
  rw [e] at e'
  cases e'
  rw [c] at c'
  exact absurd c' (by decide)
theorem turn_enumT {P : Program} {w : World} {K : PySem.W.Frag} {elts : List Expr} {kk : Nat} {tpos : Pos} (a e it : Addr) :
    Turn P w K (.Tuple elts kk tpos) (IteT K a) [e, it] e (fun i h => (∃ old, IsEnum h e it ((i : Nat) : Int) old) ∧ h.IsTupleIter it a i ∧ e ≠ it ∧ e ≠ a) where
  mem := by simp
  obj := fun i h st b hb => by
    obtain ⟨⟨old, he⟩, ⟨o, ho, hc, hd⟩, _⟩ := st
    rcases two_mem hb with z | z <;> subst z
    · exact ⟨_, he, fun v q => nomatch q⟩
    · exact ⟨o, ho, fun v q => by rw [hd] at q; cases q⟩
  keep := fun i h h' ⟨⟨old, he⟩, hi, hne⟩ k => ⟨⟨old, k e (by simp) _ he⟩, hi.at fun o q => k it (by simp) o q, hne⟩
  item := by
    intro X hP hw hK hc i pins s σ H E I hf ⟨⟨old, he⟩, hit, hne, hea⟩ ⟨xs, x, hq, hx⟩
    subst hP hw hK
    obtain ⟨its, rv, p, hz⟩ := I.tuple hq
    obtain ⟨u, hu, ru⟩ := rv.get hx
    have lt : ∀ b ∈ [e, it], b < s.heap.objs.size := fun b hb => by
      rcases two_mem hb with z | z <;> subst z
      · exact Heap.lt_size he
      · obtain ⟨_, q, _⟩ := hit
        exact Heap.lt_size q
    have hel := lt e (by simp)
    have hi : i < its.toArray.size := by
      have := List.getElem?_eq_some_iff.mp hu
      simpa using this.1
    refine wpAny_pyNext_enum_itemD (Draws.tuple (A := X.A.in1) (show X.A.in1.handled = none from I.ok.hd hc) it a (apart_tup hit p) its.toArray) he ⟨hit, p⟩ hi hne (by simp [hne, hea]) fun y h1 tk hy ho hst hT hsz hk => ?_
    have hy : its[i]? = some y := by simpa using hy
    rw [hu] at hy
    cases hy
    refine ⟨_, rfl, wpAny_letOwnedTupleGo_enum (s := { s with heap := h1, toks := tk + 1 }) ho fun h2 he' sb => ?_⟩
    have hT2 := (sb.2 _ (Nat.ne_of_gt hel)).trans hT
    refine ⟨.ref s.heap.objs.size, _, I.turnedNew (t' := tk + 1) (ch := [e, it]) (ob := .tup [.int (i : Nat), x]) (fun b ob hb q => (sb.2 b (fun z => hb (by simp [z]))).trans (hk b ob (fun z => hb (by simp [z])) (fun z => hb (by simp [z])) q)) hf (Nat.le_refl _)
      ⟨by show 2 ≤ sizeLine; decide, [.int i tk, u], .cons ⟨_, rfl⟩ (.cons ru .nil), ⟨_, hT2, rfl, _, rfl⟩⟩, rfl, ⟨_, x, rfl, I.hok.fresh (Nat.le_refl _), rfl, fun ys hy => by rw [I.tuple_inj hy hq]; exact hx⟩, ⟨⟨u, ?_⟩, hst.1.at fun o q => (sb.2 it (Ne.symm hne)).trans q, hne, hea⟩, fun b hb => ?_⟩
    · rw [show ((i + 1 : Nat) : Int) = (i : Int) + 1 by omega]
      exact he'
    · rw [upd_ne (Nat.ne_of_lt (lt b hb))]
      exact (hf b hb).1
  done := by
    intro X hP hw hK hc i pins s σ H E I hf ⟨⟨old, he⟩, hit, hne, hea⟩ ⟨xs, hq, hx⟩
    subst hP hw hK
    obtain ⟨its, rv, p, hz⟩ := I.tuple hq
    obtain ⟨f0, f1, f2, f3, f4, f5⟩ := hf it (by simp)
    have hl := rv.length
    have hno : its.toArray[i]? = none := by simp; omega
    have hT : s.TypeIs (.ref e) "enumerate" := ⟨_, he, rfl⟩
    unfold pyNext
    refine wpAny_bind (wpAny_attempt (wpAny_callSpecial?_slot (name := Str.ofString "__next__") hT F.slot_enumerate_next
      (wpAny_call_entry F.slot_enumerate_next hT F.entry_enumerate_next ?_ (F.args_enumerate_next_1 _))))
    show wpAny _ _ (field (.ref e) 2 >>= _) _ _ _
    refine wpAny_bind (wpAny_field he rfl (x := .ref it) rfl ?_)
    refine wpAny_bind (RZ.nextOf_tuple_end (I.ok.hd hc) hit p hno fun h' x he' ⟨o, ho, hc'⟩ => ?_)
    refine wpAny_bind (wpAny_isInstance (T := "StopIteration") (b := true) ⟨o, ho, hc'⟩ isSubtype_stop ?_)
    exact wpAny_pure ⟨rfl, I.turned (t' := s.toks) (fun b o hb q => he' b o hb q) f0 f1 f3 f4 f5⟩
  self := fun A i s Q E ⟨⟨_, he⟩, _⟩ h => wpAny_pyIter_enum he h
set_option maxHeartbeats 8000000 in
theorem meets_enumB1 {v : Value} {o : Obj} {H : Heap → Prop} (B : Begins v o H) :
    Meets (Builtin.«enumerate.__new__» ⟨[.type "enumerate", v], []⟩) (fun _ R s => H s.heap ∧
      R (.ok (.ret (.ref (s.heap.push o).objs.size))) { s with heap := (s.heap.push o).push { cls := .type "enumerate", data := .fields #[.none, .bool false, .ref s.heap.objs.size, rawInt 0, .none, .none] } }) :=
  .of_wp fun prog w A R ⟨hp, g, d, tk, os⟩ ⟨h1, h⟩ => by
    have hsub := sub_enumerate
    have q1 : ∀ {A' : Around} {E : Value → Shared → Prop} {Q : Value → Shared → Prop}, Q (.ref hp.objs.size) ⟨hp.push o, g, d, tk, os⟩ → wpAny (model prog w) A' (pyIter v) Q E ⟨hp, g, d, tk, os⟩ :=
      fun q => B.iter prog w _ _ ⟨hp, g, d, tk, os⟩ _ h1 q
    wp_walk using q1
    refine wpAny_stack_any fun st => wpAny_pure ?_
    split
    · rename_i c _ _ _ _ _
      cases (c == Value.type "enumerate") <;> (wp_walk using q1; exact ⟨_, rfl, h⟩)
    · wp_walk using q1
      exact ⟨_, rfl, h⟩
def iEnumT (K : PySem.W.Frag) (ta : TA) : TI := fun σ H R => ta σ H fun vs H1 => ∃ a xs, vs = [.ref a] ∧ SqT K H1 a xs ∧ R (IteT K a) H1
theorem pi_enumT {X : Cx} {e : Expr} {ta : TA} {p pos tpos : Pos} {elts : List Expr} {kk : Nat} (hg : Gl X "enumerate") (hm : X.mg "enumerate" = none) (ha : PA X [e] ta) (hs : starEach [e] X.env = [(false, eval e X.env)] := by rfl) :
    PI X (.Tuple elts kk tpos) (.Call (.Name "enumerate" p) [e] [] pos) (iEnumT X.K ta) := by
  refine ⟨fun pins s σ H R I h => ?_⟩
  refine Call_ (ld_blt I hg hm boot_enumerate (PyProof.Rows.callWith_type1 (thn (ha.run pos pins s σ H _ I h) fun us s1 ⟨vs, H1, I1, r1, q1⟩ => ?_) hs rfl))
  obtain ⟨a, xs, rfl, hq, q⟩ := q1
  obtain ⟨u, rfl, ru⟩ := vals1 r1
  obtain rfl : u = Value.ref a := ru
  obtain ⟨its, rv, p', hz⟩ := I1.tuple hq
  have hT : s1.heap.IsTuple a its.toArray := p'
  refine callType_new F.called_enumerate (by decide) (F.typeCall_enumerate_1 _) (F.newCall_enumerate_1 _) (fun obj => F.args_object_init_2 obj _) F.entry_enumerate_new (meets_enumB1 (begins_tuple a its.toArray)) ⟨hT, ?_⟩
  have sz : (s1.heap.push { cls := .type "tuple_iterator", data := .fields #[.ref a, .int 0 0] }).objs.size = s1.heap.objs.size + 1 := Heap.size_push ..
  have he : IsEnum ((s1.heap.push { cls := .type "tuple_iterator", data := .fields #[.ref a, .int 0 0] }).push { cls := .type "enumerate", data := .fields #[.none, .bool false, .ref s1.heap.objs.size, rawInt 0, .none, .none] }) (s1.heap.objs.size + 1) s1.heap.objs.size 0 .none := by
    have := Heap.get?_push_size (s1.heap.push { cls := .type "tuple_iterator", data := .fields #[.ref a, .int 0 0] }) (o := { cls := .type "enumerate", data := .fields #[.none, .bool false, .ref s1.heap.objs.size, rawInt 0, .none, .none] }) rfl
    rw [sz] at this
    exact this
  show _ ∧ _
  rw [sz]
  refine ⟨⟨_, he, rfl⟩, wpAny_pyIter_enum (s := { s1 with heap := _ }) he ?_⟩
  have la : a < s1.heap.objs.size := by
    obtain ⟨o, ho, _⟩ := hT
    exact Heap.lt_size ho
  refine ⟨s1.heap.objs.size + 1, [s1.heap.objs.size + 1, s1.heap.objs.size], _, _, H1, rfl, I1.kept (t' := s1.toks) fun b ob q => Heap.get?_push_of_some _ (Heap.get?_push_of_some _ q), turn_enumT a (s1.heap.objs.size + 1) s1.heap.objs.size,
    ⟨⟨.none, he⟩, ⟨_, Heap.get?_push_of_some _ (Heap.get?_push_size _ rfl), rfl, rfl⟩, Nat.succ_ne_self _, Nat.ne_of_gt (Nat.lt_succ_of_lt la)⟩, fun b hb => ?_, q⟩
  have le : s1.heap.objs.size ≤ b := by
    rcases two_mem hb with z | z <;> subst z
    · exact Nat.le_succ _
    · exact Nat.le_refl _
  exact I1.fpOk le (I1.hok.fresh le)
theorem walk_enumT {K : PySem.W.Frag} {a : Addr} {xs : List V} : Walk (IteT K a) xs.length (fun H => SqT K H a xs) (YPair (fun i => some (.int (i : Nat))) (fun i => xs[i]?)) :=
  ⟨fun i _ hi q => ⟨xs, xs[i], q, List.getElem?_eq_getElem hi⟩, fun _ q => ⟨xs, q, Nat.le_refl _⟩, fun i H v H' _ q ⟨T, x, h1, h2, h3, h4⟩ => ⟨T, .int (i : Nat), x, h1, h2, h3, rfl, h4 xs q⟩⟩
theorem walk_zipT {K : PySem.W.Frag} {a b : Addr} {xs ys : List V} {n : Nat} (hn : n = min xs.length ys.length) : Walk (RZ.ItzT K a b) n (fun H => SqT K H a xs ∧ SqT K H b ys) (YPair (fun i => xs[i]?) (fun i => ys[i]?)) :=
  ⟨fun i _ hi q => ⟨xs, ys, xs[i]'(by omega), ys[i]'(by omega), q.1, q.2, List.getElem?_eq_getElem _, List.getElem?_eq_getElem _⟩, fun _ q => ⟨xs, ys, q.1, q.2, by omega⟩, fun i H v H' _ q ⟨T, x, z, h1, h2, h3, h4, h5⟩ => ⟨T, x, z, h1, h2, h3, h4 xs q.1, h5 ys q.2⟩⟩
/-- a list or a tuple, walked -/
def iSeq (K : PySem.W.Frag) (tl : TE) : TI := fun σ H R => tl σ H fun x H1 => ∃ a, x = .ref a ∧ ((∃ xs, SqL K H1 a xs) ∧ R (Itl K a) H1 ∨ (∃ xs, SqT K H1 a xs) ∧ R (Itt K a) H1)
theorem pi_seq {X : Cx} {tg l : Expr} {tl : TE} (hl : PE X l tl) : PI X tg l (iSeq X.K tl) := by
  refine ⟨fun pins s σ H R I h => thn (hl.run pins s σ H _ I h) fun v s1 ⟨x, H1, I1, r1, a, e, q⟩ => ?_⟩
  subst e
  cases r1
  have new : ∀ b ∈ [s1.heap.objs.size], FpOk X pins H1 b := fun b hb => by
    rw [List.mem_singleton.mp hb]
    exact I1.fpOk (Nat.le_refl _) (I1.hok.fresh (Nat.le_refl _))
  rcases q with ⟨⟨xs, hq⟩, q⟩ | ⟨⟨xs, hq⟩, q⟩
  · obtain ⟨its, rv, p, hz⟩ := I1.list hq
    exact wpAny_pyIter_list p.isList ⟨s1.heap.objs.size, _, _, _, H1, rfl, I1.kept (t' := s1.toks) fun b o e => Heap.get?_push_of_some _ e, turn_list a _, ⟨_, Heap.get?_push_size _ rfl, rfl, rfl⟩, new, q⟩
  · obtain ⟨its, rv, p, hz⟩ := I1.tuple hq
    exact wpAny_pyIter_tuple (show s1.heap.IsTuple a its.toArray from p) ⟨s1.heap.objs.size, _, _, _, H1, rfl, I1.kept (t' := s1.toks) fun b o e => Heap.get?_push_of_some _ e, turn_tuple a _, ⟨_, Heap.get?_push_size _ rfl, rfl, rfl⟩, new, q⟩
end Wb
namespace Wv
open PySem PySem.Spec PyProof.Rows L2 Wb
section
variable {K : PySem.W.Frag} {σ : L2.St} {B B' : Hp} {ta tb te tl : TE} {tt tu : TT} {R S T U : Rel} {Rs : List Rel} {x v : V}
theorem Di.zipT {ta : TA} {Ss : List Rel} [m : MoA Rs] [m' : MoA Ss] (hm : ∀ R ∈ Rs, Mo R) (hm' : ∀ R ∈ Ss, Mo R) (h : Da ta σ B [tupR K Rs, tupR K Ss]) : Di (RZ.iZipA K ta) σ B ((Rs.zip Ss).map fun p => tupR K [p.1, p.2]) := fun B1 H s1 s2 Q q => h B1 H s1 s2 _ fun vs B2 H2 e hv => by
  obtain ⟨v, r, rfl, ⟨a, xs, rfl, hs, hR⟩, v', r', rfl, ⟨b, ys, rfl, hs', hR'⟩, h5⟩ := hv
  have h5 : r' = [] := h5
  subst h5
  refine ⟨a, b, xs, ys, rfl, .inr ⟨seqT e.bh hs, seqT e.bh hs', q _ B2 H2 e ?_⟩⟩
  have len := allR_len hR
  have len' := allR_len hR'
  unfold Wk
  rw [List.length_map]
  refine (walk_zipT (K := K) (a := a) (b := b) (xs := xs) (ys := ys) (n := (Rs.zip Ss).length) (by rw [List.length_zip, len, len'])).mono (fun H' s => ⟨seqT s hs, seqT s hs'⟩) fun i H' x H'' hi s y => ?_
  obtain ⟨p, u, w, rfl, hp, rfl, hu, hw⟩ := y
  have hu : xs[i]? = some u := hu
  have hw : ys[i]? = some w := hw
  obtain ⟨R, hR1, _⟩ := allR_at hR hu
  obtain ⟨S, hS1, _⟩ := allR_at hR' hw
  refine ⟨tupR K [R, S], ?_, fun Bc sc sh => ?_⟩
  · rw [List.getElem?_map, List.getElem?_zip_eq_some (z := (R, S)) |>.mpr ⟨hR1, hS1⟩]
    rfl
  · have := hm R (List.mem_of_getElem? hR1)
    have := hm' S (List.mem_of_getElem? hS1)
    obtain ⟨v1, hv1, q1⟩ := allR_of (m.mo sc hR) hR1
    obtain ⟨v2, hv2, q2⟩ := allR_of (m'.mo sc hR') hS1
    rw [hu] at hv1
    rw [hw] at hv2
    cases hv1
    cases hv2
    exact pair_new sh hp q1 q2
theorem Di.enumT {ta : TA} [m : MoA Rs] (hm : ∀ R ∈ Rs, Mo R) (h : Da ta σ B [tupR K Rs]) : Di (iEnumT K ta) σ B (Rs.zipIdx.map fun p => tupR K [dat K (.int (p.2 : Int)), p.1]) := fun B1 H s1 s2 Q q => h B1 H s1 s2 _ fun vs B2 H2 e hv => by
  obtain ⟨v, r, rfl, ⟨a, xs, rfl, hs, hR⟩, h5⟩ := hv
  have h5 : r = [] := h5
  subst h5
  refine ⟨a, xs, rfl, seqT e.bh hs, q _ B2 H2 e ?_⟩
  have len := allR_len hR
  unfold Wk
  rw [List.length_map, List.length_zipIdx, ← len]
  refine (walk_enumT (K := K) (a := a) (xs := xs)).mono (fun H' s => seqT s hs) fun i H' x H'' hi s y => ?_
  obtain ⟨p, u, w, rfl, hp, rfl, hu, hw⟩ := y
  cases hu
  have hw : xs[i]? = some w := hw
  obtain ⟨R, hR1, _⟩ := allR_at hR hw
  refine ⟨tupR K [dat K (.int (i : Int)), R], ?_, fun Bc sc sh => ?_⟩
  · rw [List.getElem?_map, List.getElem?_zipIdx, hR1]
    simp
  · have := hm R (List.mem_of_getElem? hR1)
    obtain ⟨v1, hv1, q1⟩ := allR_of (m.mo sc hR) hR1
    rw [hw] at hv1
    cases hv1
    exact pair_new sh hp (Dp.int _) q1
/-- of data that stands for things -/
theorem mo_dats {α : Type} {as : List α} {f : α → PyData} : ∀ R ∈ as.map (fun a => dat K (f a)), Mo R := fun R h => by
  obtain ⟨a, _, rfl⟩ := List.mem_map.mp h
  exact inferInstance
theorem mos_dats {α : Type} {as : List α} {f : α → PyData} : MoA (as.map fun a => dat K (f a)) := moA_of mo_dats
theorem dat_tupM {α : Type} {as : List α} {f : α → PyData} {B : Hp} {v : V} (h : dat K (.tuple (as.map f)) B v) : tupR K (as.map fun a => dat K (f a)) B v := by
  have := dat_tupR h
  rw [List.map_map] at this
  exact this
theorem Di.zipTM {α β : Type} {as : List α} {bs : List β} {f : α → PyData} {g : β → PyData} {ta tb : TE} (h : De ta σ B (dat K (.tuple (as.map f)))) (h2 : De tb σ B (dat K (.tuple (bs.map g)))) :
    Di (RZ.iZipA K (tCons ta (tCons tb tNil))) σ B ((as.zip bs).map fun p => tupR K [dat K (f p.1), dat K (g p.2)]) := by
  have : MoA (as.map fun a => dat K (f a)) := mos_dats
  have : MoA (bs.map fun a => dat K (g a)) := mos_dats
  have i1 : Mo (tupR K (as.map fun a => dat K (f a))) := inferInstance
  have := Di.zipT (K := K) (Rs := as.map fun a => dat K (f a)) (Ss := bs.map fun a => dat K (g a)) mo_dats mo_dats (.cons (h.conv fun _ _ => dat_tupM) (.cons (h2.conv fun _ _ => dat_tupM) .nil))
  rw [List.zip_map, List.map_map] at this
  exact this
theorem Di.enumTM {α : Type} {as : List α} {f : α → PyData} {ta : TE} (h : De ta σ B (dat K (.tuple (as.map f)))) : Di (iEnumT K (tCons ta tNil)) σ B (as.zipIdx.map fun p => tupR K [dat K (.int (p.2 : Int)), dat K (f p.1)]) := by
  have : MoA (as.map fun a => dat K (f a)) := mos_dats
  have := Di.enumT (K := K) (Rs := as.map fun a => dat K (f a)) mo_dats (.cons (h.conv fun _ _ => dat_tupM) .nil)
  rw [List.zipIdx_map, List.map_map] at this
  exact this
end
/-! ### promises by their arguments -/
section
variable {α : Type} {args : α → List Rel} {R R1 R2 R3 : α → Rel} {pre : α → Prop} {res : α → Rel} {vs : List V} {H : Hp} {Q : VK} {E : XK}
theorem pf_len (h : Pf args pre res vs H Q E) {m : Nat} (n : ∀ a, (args a).length = m) : vs.length = m := by
  obtain ⟨B, a, _, h, _⟩ := h
  rw [allR_len h, n]
theorem pf1 (h : Pf (fun a => [R a]) pre res vs H Q E) : ∃ v B a, vs = [v] ∧ Same B H ∧ R a B v ∧ pre a ∧ ∀ v B' H', Ext B H B' H' → res a B' v → Q v H' := by
  obtain ⟨B, a, s, ⟨v, r, rfl, h1, h⟩, p, k⟩ := h
  have h : r = [] := h
  subst h
  exact ⟨v, B, a, rfl, s, h1, p, k⟩
theorem pf2 (h : Pf (fun a => [R a, R1 a]) pre res vs H Q E) : ∃ v v1 B a, vs = [v, v1] ∧ Same B H ∧ R a B v ∧ R1 a B v1 ∧ pre a ∧ ∀ v B' H', Ext B H B' H' → res a B' v → Q v H' := by
  obtain ⟨B, a, s, ⟨v, r, rfl, h1, v1, r1, rfl, h2, h⟩, p, k⟩ := h
  have h : r1 = [] := h
  subst h
  exact ⟨v, v1, B, a, rfl, s, h1, h2, p, k⟩
theorem pf3 (h : Pf (fun a => [R a, R1 a, R2 a]) pre res vs H Q E) : ∃ v v1 v2 B a, vs = [v, v1, v2] ∧ Same B H ∧ R a B v ∧ R1 a B v1 ∧ R2 a B v2 ∧ pre a ∧ ∀ v B' H', Ext B H B' H' → res a B' v → Q v H' := by
  obtain ⟨B, a, s, ⟨v, r, rfl, h1, v1, r1, rfl, h2, v2, r2, rfl, h3, h⟩, p, k⟩ := h
  have h : r2 = [] := h
  subst h
  exact ⟨v, v1, v2, B, a, rfl, s, h1, h2, h3, p, k⟩
theorem pf4 (h : Pf (fun a => [R a, R1 a, R2 a, R3 a]) pre res vs H Q E) : ∃ v v1 v2 v3 B a, vs = [v, v1, v2, v3] ∧ Same B H ∧ R a B v ∧ R1 a B v1 ∧ R2 a B v2 ∧ R3 a B v3 ∧ pre a ∧ ∀ v B' H', Ext B H B' H' → res a B' v → Q v H' := by
  obtain ⟨B, a, s, ⟨v, r, rfl, h1, v1, r1, rfl, h2, v2, r2, rfl, h3, v3, r3, rfl, h4, h⟩, p, k⟩ := h
  have h : r3 = [] := h
  subst h
  exact ⟨v, v1, v2, v3, B, a, rfl, s, h1, h2, h3, h4, p, k⟩
end
end Wv

set_option Elab.async false
set_option linter.all false
set_option maxRecDepth 100000
set_option maxHeartbeats 4000000
/-! Wv4: statements, by what is evaluated. -/
theorem L2.Room.u65 {k : Nat} {A : PySem.Around} (h : L2.Room k A) : A.units + 65 < PySem.cLine := by
  have := h.un
  omega
namespace Wv
open PySem PySem.Spec PyProof.Rows L2 Wb
section
variable {K : PySem.W.Frag} {σ : L2.St} {B H : Hp} {ta tb te tl : TE} {tt tu : TT} {R S T U : Rel} {Rs : List Rel} {D : Ends} {t u rest : TS} {i j : Nat}
theorem s_set (h : De te σ B R) (hB : Same B H) (k : ∀ v B' H', Ext B H B' H' → R B' v → rest D (σ.set i (some v)) H') : tSeq (tAsg te (gName i)) rest D σ H := h B H (Same.refl _) hB _ k
theorem s_setE (h : De te σ B R) (hB : Same B H) (k : ∀ v B' H', Ext B H B' H' → R B' v → D.nx (σ.set i (some v)) H') : tAsg te (gName i) D σ H := h B H (Same.refl _) hB _ k
theorem s_ret (h : De te σ B R) (hB : Same B H) (k : ∀ v B' H', Ext B H B' H' → R B' v → D.rt v H') : tRet te D σ H := h B H (Same.refl _) hB _ k
theorem s_if {b : Bool} (h : Dt tt σ B b) (hB : Same B H) (k1 : b = true → ∀ B' H', Ext B H B' H' → t D σ H') (k2 : b = false → ∀ B' H', Ext B H B' H' → u D σ H') : tIfS tt t u D σ H := h B H (Same.refl _) hB _ fun B' H' e => by
  cases b with
  | true => exact k1 rfl B' H' e
  | false => exact k2 rfl B' H' e
theorem s_ifS {b : Bool} (h : Dt tt σ B b) (hB : Same B H) (k1 : b = true → ∀ B' H', Ext B H B' H' → t { D with nx := rest D } σ H') (k2 : b = false → ∀ B' H', Ext B H B' H' → u { D with nx := rest D } σ H') : tSeq (tIfS tt t u) rest D σ H := s_if (D := { D with nx := rest D }) h hB k1 k2
/-- a test that is not met: on it goes -/
theorem s_skip (h : Dt tt σ B false) (hB : Same B H) (k : ∀ B' H', Ext B H B' H' → rest D σ H') : tSeq (tIfS tt t tNext) rest D σ H := s_ifS h hB (fun z => nomatch z) fun _ => k
theorem s_par {ta : TA} {S : Rel} (h : Da ta σ B [R, S]) (hB : Same B H) (k : ∀ u v B' H', Ext B H B' H' → R B' u → S B' v → rest D ((σ.set i (some u)).set j (some v)) H') : tSeq (tPar i j ta) rest D σ H := h B H (Same.refl _) hB _ fun vs B' H' e hv => by
  obtain ⟨a, r, rfl, h1, b, r', rfl, h2, h3⟩ := hv
  have h3 : r' = [] := h3
  subst h3
  exact ⟨a, b, rfl, k a b B' H' e h1 h2⟩
theorem Rv.mulS3 {a : Nat} : Rv rMulS B (dat K (.str ⟨#[a]⟩)) (dat K (.int 3)) (dat K (.str (mulS ⟨#[a]⟩ 3))) := fun x y B1 H1 _ s2 hx hy Q q => ⟨_, 3, dat_str hx, dat_int hy, by decide, by decide, Nat.zero_lt_one, by show 1 ≤ 1000; decide, q _ B1 H1 (.refl s2) (.str _)⟩
theorem De.negI {n : Int} (h : De te σ B (dat K (.int n))) : De (tUn (rU fun i => .int (-i)) te) σ B (dat K (.int (-n))) := .un h fun x B1 H1 _ s2 hx Q q => ⟨n, dat_int hx, q _ B1 H1 (.refl s2) (.int _)⟩
theorem Di.seqL {ds : List PyData} (h : De tl σ B (dat K (.list ds))) : Di (iSeq K tl) σ B (ds.map (dat K)) := fun B1 H s1 s2 Q q => h B1 H s1 s2 _ fun v B2 H2 e hv => by
  have q2 := Di.listD (K := K) (De.var (i := 0) (σ := [some v]) hv rfl) B2 H2 (Same.refl _) e.bh Q fun J B3 H3 e3 hw => q J B3 H3 (e.trans e3) hw
  obtain ⟨x, hx, a, ha, hs, r⟩ := q2
  cases hx
  exact ⟨a, ha, .inl ⟨hs, r⟩⟩
theorem Di.seqT {ds : List PyData} (h : De tl σ B (dat K (.tuple ds))) : Di (iSeq K tl) σ B (ds.map (dat K)) := fun B1 H s1 s2 Q q => h B1 H s1 s2 _ fun v B2 H2 e hv => by
  have q2 := Di.tupD (K := K) (De.var (i := 0) (σ := [some v]) hv rfl) B2 H2 (Same.refl _) e.bh Q fun J B3 H3 e3 hw => q J B3 H3 (e.trans e3) hw
  obtain ⟨x, hx, a, ha, hs, r⟩ := q2
  cases hx
  exact ⟨a, ha, .inr ⟨hs, r⟩⟩
abbrev rTup (K : PySem.W.Frag) : List V → Hp → VK → Prop := fun xs H Q => ∃ p ys, xs = [.ref p] ∧ ((SqL K H p ys ∧ ∀ l, H l = none → Q (.ref l) (upd H l (.tup ys))) ∨ (SqT K H p ys ∧ Q (.ref p) H))
abbrev rLst (K : PySem.W.Frag) : List V → Hp → VK → Prop := fun xs H Q => ∃ p ys, xs = [.ref p] ∧ (SqL K H p ys ∨ SqT K H p ys) ∧ ∀ l, H l = none → Q (.ref l) (upd H l (.lst ys))
abbrev rLen (K : PySem.W.Frag) : List V → Hp → VK → Prop := fun xs H Q => ∃ x n, xs = [x] ∧ LenV K x H n ∧ Q (.int n) H
/-- what is wanted behind a turn -/
def Nz (B H : Hp) (P : L2.St → Hp → Prop) : L2.St → Hp → Prop := fun σ H' => ∃ B', Ext B H B' H' ∧ P σ B'
theorem s_forE {wi : TI} {g : TG} {ts : TS} (hi : Di wi σ B Rs) (hB : Same B H) (Pv : Nat → L2.St → Hp → Prop) (h0 : ∀ B', Same B B' → Pv 0 σ B')
    (hs : ∀ B1 H1, Ext B H B1 H1 → ∀ i R v σ' Bc Bn Hn, Rs[i]? = some R → Pv i σ' Bc → Same Bc Bn → Ext B1 H1 Bn Hn → R Bn v → g v σ' Hn fun σ2 H2 => ts { D with nx := Nz B1 H1 (Pv (i + 1)), ct := Nz B1 H1 (Pv (i + 1)), bk := D.nx } σ2 H2)
    (hd : ∀ σ' B' H', Ext B H B' H' → Pv Rs.length σ' B' → D.nx σ' H') : tFor wi g ts D σ H :=
  hi B H (Same.refl _) hB _ fun J B1 H1 e hw => for_it hw (fun i => Nz B1 H1 (Pv i)) ⟨B1, .refl e.bh, h0 B1 e.bb⟩ (fun i σ' H' _ ⟨B', s1, _⟩ => s1.bb.trans s1.bh)
    (fun i x σ' H' H'' hi ⟨Bc, s1, p⟩ ⟨R, hR, y⟩ => by
      obtain ⟨Bn, e2, hx⟩ := y Bc s1.bb s1.bh
      exact hs B1 H1 e i R x σ' Bc Bn H'' hR p e2.bb (s1.trans e2) hx)
    (fun σ' H' ⟨B', s1, p⟩ => hd σ' B' H' (e.trans s1) p)
theorem s_forS {wi : TI} {g : TG} {ts : TS} (hi : Di wi σ B Rs) (hB : Same B H) (Pv : Nat → L2.St → Hp → Prop) (h0 : ∀ B', Same B B' → Pv 0 σ B')
    (hs : ∀ B1 H1, Ext B H B1 H1 → ∀ i R v σ' Bc Bn Hn, Rs[i]? = some R → Pv i σ' Bc → Same Bc Bn → Ext B1 H1 Bn Hn → R Bn v → g v σ' Hn fun σ2 H2 => ts { D with nx := Nz B1 H1 (Pv (i + 1)), ct := Nz B1 H1 (Pv (i + 1)), bk := rest D } σ2 H2)
    (hd : ∀ σ' B' H', Ext B H B' H' → Pv Rs.length σ' B' → rest D σ' H') : tSeq (tFor wi g ts) rest D σ H := s_forE (D := { D with nx := rest D }) hi hB Pv h0 hs hd
end
end Wv

set_option Elab.async false
set_option linter.all false
set_option maxRecDepth 100000
set_option maxHeartbeats 4000000
/-! Wv5: what is evaluated while a deal goes on: a base that leaves the deal's two lists out. -/
namespace Wv
open PySem PySem.Spec PyProof.Rows L2 Wb
/-- the deal at d and c, a base that has neither -/
structure Dl (B H : Hp) (d c : Addr) : Prop where
  deal : Deal H d c
  sub : Same B (off H d c)
theorem Dl.bh {B H : Hp} {d c : Addr} (L : Dl B H d c) : Same B H := L.sub.trans (off_le H d c)
theorem Dl.noD {B H : Hp} {d c : Addr} (L : Dl B H d c) : B d = none := by
  cases h : B d with
  | none => rfl
  | some o => exact absurd rfl (off_some (L.sub _ _ h)).2.1
theorem Dl.noC {B H : Hp} {d c : Addr} (L : Dl B H d c) : B c = none := by
  cases h : B c with
  | none => rfl
  | some o => exact absurd rfl (off_some (L.sub _ _ h)).2.2
theorem Deal.atD {H : Hp} {d c : Addr} (D : Deal H d c) : H d ≠ none ∧ H c ≠ none := by
  obtain ⟨cs, mix, h1, h2, _⟩ := D.ex
  rw [h1, h2]
  exact ⟨Option.some_ne_none _, Option.some_ne_none _⟩
/-- later: the deal may have been drawn from, all else is kept -/
structure ExtD (d c : Addr) (B H B' H' : Hp) : Prop where
  deal : Deal H' d c
  oo : Same (off H d c) (off H' d c)
  bb : Same B B'
  sub : Same B' (off H' d c)
  nw : ∀ b, H b ≠ none → B b = none → B' b = none
theorem ExtD.dl {d c : Addr} {B H B' H' : Hp} (e : ExtD d c B H B' H') : Dl B' H' d c := ⟨e.deal, e.sub⟩
theorem ExtD.bh {d c : Addr} {B H B' H' : Hp} (e : ExtD d c B H B' H') : Same B' H' := e.dl.bh
theorem ExtD.refl {d c : Addr} {B H : Hp} (L : Dl B H d c) : ExtD d c B H B H := ⟨L.deal, Same.refl _, Same.refl _, L.sub, fun _ _ h => h⟩
theorem ExtD.trans {d c : Addr} {B H B1 H1 B2 H2 : Hp} (D : Dl B H d c) (a : ExtD d c B H B1 H1) (b : ExtD d c B1 H1 B2 H2) : ExtD d c B H B2 H2 :=
  ⟨b.deal, a.oo.trans b.oo, a.bb.trans b.bb, b.sub, fun x h1 h2 => by
    refine b.nw x ?_ (a.nw x h1 h2)
    by_cases e1 : x = d
    · rw [e1]
      exact (Deal.atD a.deal).1
    · by_cases e2 : x = c
      · rw [e2]
        exact (Deal.atD a.deal).2
      · cases h : H x with
        | none => exact absurd h h1
        | some o =>
          rw [(off_some (a.oo x o ((off_at e1 e2).trans h))).1]
          exact fun z => nomatch z⟩
theorem ExtD.of {d c : Addr} {B H B' H' : Hp} (L : Dl B H d c) (e : Ext B H B' H') : ExtD d c B H B' H' :=
  ⟨L.deal.same e.hh, off_mono e.hh, e.bb, fun b o h => by
    have at_ := Deal.atD L.deal
    have n1 : b ≠ d := fun z => by rw [z, e.nw d at_.1 L.noD] at h; cases h
    have n2 : b ≠ c := fun z => by rw [z, e.nw c at_.2 L.noC] at h; cases h
    rw [off_at n1 n2]
    exact e.bh b o h, e.nw⟩
theorem ExtD.draw {d c : Addr} {B H H' : Hp} (L : Dl B H d c) (D : Deal H' d c) (S : Same (off H d c) (off H' d c)) : ExtD d c B H B H' := ⟨D, S, Same.refl _, L.sub.trans S, fun _ _ h => h⟩
/-- what is neither of the deal's lists is kept -/
theorem ExtD.keep {d c a : Addr} {o : HO} {B H B' H' : Hp} (e : ExtD d c B H B' H') (h : H a = some o) (n1 : a ≠ d) (n2 : a ≠ c) : H' a = some o := (off_some (e.oo a o ((off_at n1 n2).trans h))).1
theorem deal_upd0 {H : Hp} {d c L : Addr} {o : HO} (D : Deal H d c) (n1 : L ≠ d) (n2 : L ≠ c) : Deal (upd H L o) d c := by
  obtain ⟨cs, mix, h1, h2, r⟩ := D.ex
  exact ⟨cs, mix, (upd_ne n1.symm).trans h1, (upd_ne n2.symm).trans h2, r⟩
/-- a list that is made by and by: hidden from the base -/
structure Ml (d c : Addr) (B H : Hp) (L : Addr) (xs : List V) : Prop where
  at_ : H L = some (.lst xs)
  no : B L = none
  nd : L ≠ d
  nc : L ≠ c
theorem Ml.ext {d c L : Addr} {B H B' H' : Hp} {xs : List V} (m : Ml d c B H L xs) (e : ExtD d c B H B' H') : Ml d c B' H' L xs :=
  ⟨e.keep m.at_ m.nd m.nc, e.nw L (by rw [m.at_]; exact fun z => nomatch z) m.no, m.nd, m.nc⟩
theorem Ml.new {d c L : Addr} {B H : Hp} {xs : List V} (D : Dl B H d c) (h : H L = none) : Ml d c B (upd H L (.lst xs)) L xs ∧ ExtD d c B H B (upd H L (.lst xs)) :=
  ⟨⟨upd_same, D.bh.free h, (D.deal.free h).1, (D.deal.free h).2⟩, .of D (.own D.bh h)⟩
theorem Ml.set {d c L : Addr} {B H : Hp} {xs ys : List V} (D : Dl B H d c) (m : Ml d c B H L xs) : Ml d c B (upd H L (.lst ys)) L ys ∧ Dl B (upd H L (.lst ys)) d c :=
  ⟨⟨upd_same, m.no, m.nd, m.nc⟩, deal_upd0 D.deal m.nd m.nc, fun b o h => by
    have z : b ≠ L := fun z => by rw [z, m.no] at h; cases h
    obtain ⟨h1, h2, h3⟩ := off_some (D.sub b o h)
    rw [off_at h2 h3, upd_ne z]
    exact h1⟩
section
variable {K : PySem.W.Frag} {σ : L2.St} {B H : Hp} {ta tb te tl : TE} {tt tu : TT} {R S T U : Rel} {Rs : List Rel} {D : Ends} {t u rest : TS} {i j : Nat} {d c : Addr} {Q : VK} {E : XK}
theorem d_ev (L : Dl B H d c) (h : De te σ B R) (k : ∀ v B' H', ExtD d c B H B' H' → R B' v → Q v H') : te σ H Q := h B H (Same.refl _) L.bh Q fun v B' H' e hv => k v B' H' (.of L e) hv
theorem s_raw (h : te σ H fun v H' => rest D (σ.set i (some v)) H') : tSeq (tAsg te (gName i)) rest D σ H := h
theorem s_rawE (h : te σ H fun v H' => D.nx (σ.set i (some v)) H') : tAsg te (gName i) D σ H := h
theorem s_retR (h : te σ H D.rt) : tRet te D σ H := h
theorem s_ifR (h : tt σ H fun b H1 => if b = true then t D σ H1 else u D σ H1) : tIfS tt t u D σ H := h
theorem s_ifSR (h : tt σ H fun b H1 => if b = true then t { D with nx := rest D } σ H1 else u { D with nx := rest D } σ H1) : tSeq (tIfS tt t u) rest D σ H := h
theorem r_op {r : R2} (h : ta σ H fun x H1 => tb σ H1 fun y H2 => r x y H2 Q) : tOp r ta tb σ H Q := h
theorem s_parR (h : ta σ H fun x H1 => tb σ H1 fun y H2 => rest D ((σ.set i (some x)).set j (some y)) H2) : tSeq (tPar i j (tCons ta (tCons tb tNil))) rest D σ H := by
  show ta σ H fun x H1 => tb σ H1 fun y H2 => ∃ v w, [x, y] = [v, w] ∧ rest D ((σ.set i (some v)).set j (some w)) H2
  have e : (fun x H1 => tb σ H1 fun y H2 => ∃ v w, [x, y] = [v, w] ∧ rest D ((σ.set i (some v)).set j (some w)) H2) = fun x H1 => tb σ H1 fun y H2 => rest D ((σ.set i (some x)).set j (some y)) H2 := by
    funext x H1
    congr 1
    funext y H2
    apply propext
    constructor
    · rintro ⟨v, w, h, q⟩
      cases h
      exact q
    · exact fun q => ⟨_, _, rfl, q⟩
  rw [e]
  exact h
theorem c_any {n : Int} (L : Dl B H d c) (hd : σ[i]? = some (some (.ref d))) (hn : De te σ B (dat K (.int n))) (n0 : 0 < n) (n1 : n < 2 ^ 300) (k : ∀ r B' H', 0 ≤ r → r < n → ExtD d c B H B' H' → Q (.int r) H') :
    tCall spAny [] E (tCons (tVar i) (tCons te tNil)) σ H Q :=
  ⟨.ref d, hd, d_ev L hn fun v B' H' e hv => ⟨d, c, n, by rw [dat_int hv]; rfl, e.deal, n0, n1, fun r H2 r0 r1 D2 S2 => k r B' H2 r0 r1 (.trans L e (.draw e.dl D2 S2))⟩⟩
theorem c_ofL {ds : List PyData} (L : Dl B H d c) (hd : σ[i]? = some (some (.ref d))) (hn : De te σ B (dat K (.list ds))) (ne : ds ≠ []) (few : ds.length ≤ 1000) (k : ∀ x v B' H', x ∈ ds → ExtD d c B H B' H' → dat K x B' v → Q v H') :
    tCall (spOf K) [] E (tCons (tVar i) (tCons te tNil)) σ H Q :=
  ⟨.ref d, hd, d_ev L hn fun v B' H' e hv => by
    obtain ⟨p, xs, rfl, hs, hR⟩ := dat_lstR hv
    have len := allR_len hR
    rw [List.length_map] at len
    refine ⟨d, c, .ref p, rfl, e.deal, .inl ⟨p, xs, rfl, e.sub.seq hs, fun z => ne (List.eq_nil_of_length_eq_zero (by rw [← len, z]; rfl)), by omega, fun v H2 hv D2 S2 => ?_⟩⟩
    obtain ⟨m, hm, hme⟩ := List.mem_iff_getElem.mp hv
    obtain ⟨R, hR1, hR2⟩ := allR_at hR (List.getElem?_eq_getElem hm)
    rw [List.getElem?_map] at hR1
    obtain ⟨x, hx, rfl⟩ := Option.map_eq_some_iff.mp hR1
    rw [hme] at hR2
    exact k x v B' H2 (List.mem_of_getElem? hx) (.trans L e (.draw e.dl D2 S2)) hR2⟩
theorem c_ofT {ds : List PyData} (L : Dl B H d c) (hd : σ[i]? = some (some (.ref d))) (hn : De te σ B (dat K (.tuple ds))) (ne : ds ≠ []) (few : ds.length ≤ 1000) (k : ∀ x v B' H', x ∈ ds → ExtD d c B H B' H' → dat K x B' v → Q v H') :
    tCall (spOf K) [] E (tCons (tVar i) (tCons te tNil)) σ H Q :=
  ⟨.ref d, hd, d_ev L hn fun v B' H' e hv => by
    obtain ⟨p, xs, rfl, hs, hR⟩ := dat_tupR hv
    have len := allR_len hR
    rw [List.length_map] at len
    refine ⟨d, c, .ref p, rfl, e.deal, .inr (.inl ⟨p, xs, rfl, seqT e.sub hs, fun z => ne (List.eq_nil_of_length_eq_zero (by rw [← len, z]; rfl)), by omega, fun v H2 hv D2 S2 => ?_⟩)⟩
    obtain ⟨m, hm, hme⟩ := List.mem_iff_getElem.mp hv
    obtain ⟨R, hR1, hR2⟩ := allR_at hR (List.getElem?_eq_getElem hm)
    rw [List.getElem?_map] at hR1
    obtain ⟨x, hx, rfl⟩ := Option.map_eq_some_iff.mp hR1
    rw [hme] at hR2
    exact k x v B' H2 (List.mem_of_getElem? hx) (.trans L e (.draw e.dl D2 S2)) hR2⟩
theorem c_ofS {z : Str} (L : Dl B H d c) (hd : σ[i]? = some (some (.ref d))) (hn : De te σ B (dat K (.str z))) (ne : 0 < z.length) (few : z.length ≤ 1000) (k : ∀ a B' H', a ∈ z.cps.toList → ExtD d c B H B' H' → Q (.str ⟨#[a]⟩) H') :
    tCall (spOf K) [] E (tCons (tVar i) (tCons te tNil)) σ H Q :=
  ⟨.ref d, hd, d_ev L hn fun v B' H' e hv => ⟨d, c, v, rfl, e.deal, .inr (.inr ⟨z, dat_str hv, ne, few, fun a H2 ha D2 S2 => k a B' H2 ha (.trans L e (.draw e.dl D2 S2))⟩)⟩⟩
theorem t_any0 {n : Int} {Q : Bool → Hp → Prop} (L : Dl B H d c) (hd : σ[i]? = some (some (.ref d))) (hn : De te σ B (dat K (.int n))) (n0 : 0 < n) (n1 : n < 2 ^ 300) (k : ∀ b B' H', ExtD d c B H B' H' → Q b H') :
    tTest (tOp rEq (tCall spAny [] E (tCons (tVar i) (tCons te tNil))) (tC (.int 0))) σ H Q :=
  c_any L hd hn n0 n1 fun r B' H' _ _ e => ⟨rfl, _, rfl, k _ B' H' e⟩
/-- what a def is worth that draws -/
def DPf {α : Type} (args : α → List Rel) (pre : α → Prop) (res : α → Rel) : Sp := fun vs H Q _ => ∃ (d c : Addr) (B : Hp) (a : α) (us : List V), vs = .ref d :: us ∧ Dl B H d c ∧ AllR (args a) B us ∧ pre a ∧ ∀ v B' H', ExtD d c B H B' H' → res a B' v → Q v H'
theorem c_def {α : Type} {args : α → List Rel} {pre : α → Prop} {res : α → Rel} {tr : TA} (a : α) (L : Dl B H d c) (hd : σ[i]? = some (some (.ref d))) (ha : Da tr σ B (args a)) (hp : pre a) (k : ∀ v B' H', ExtD d c B H B' H' → res a B' v → Q v H') :
    tCall (DPf args pre res) [] E (tCons (tVar i) tr) σ H Q :=
  ⟨.ref d, hd, ha B H (Same.refl _) L.bh _ fun vs B1 H1 e hv => ⟨d, c, B1, a, vs, by rw [List.append_nil], (ExtD.of L e).dl, hv, hp, fun v B' H' e' hr => k v B' H' (.trans L (.of L e) e') hr⟩⟩
theorem De.slS {z : Str} {tl th : TO} {lo hi : Option Int} (h : De te σ B (dat K (.str z))) (h1 : Do tl σ B lo) (h2 : Do th σ B hi) (hz : z.length ≤ sizeLine) : De (L2.tSl rSlS te tl th) σ B (dat K (.str (cutS z lo hi))) :=
  .sl h h1 h2 fun x B1 H s1 s2 hx Q q => ⟨z, dat_str hx, hz, q _ B1 H (.refl s2) (.str _)⟩
end
theorem dpf_len {α : Type} {args : α → List Rel} {pre : α → Prop} {res : α → Rel} {vs : List V} {H : Hp} {Q : VK} {E : XK} (h : DPf args pre res vs H Q E) {m : Nat} (n : ∀ a, (args a).length + 1 = m) : vs.length = m := by
  obtain ⟨d, c, B, a, us, rfl, _, h, _⟩ := h
  rw [List.length_cons, allR_len h, n]
theorem cutS_mem {z : Str} {lo hi : Option Int} {a : Nat} (h : a ∈ (cutS z lo hi).cps.toList) : a ∈ z.cps.toList := by
  unfold cutS at h
  simp only [List.toList_toArray] at h
  exact List.mem_of_mem_drop (List.mem_of_mem_take h)
end Wv

set_option Elab.async false
set_option linter.all false
set_option maxRecDepth 100000
set_option maxHeartbeats 4000000
/-! Wv6: lists that are made while a deal goes on. -/
namespace Wv
open PySem PySem.Spec PyProof.Rows L2 Wb
section
variable {α : Type} {R R1 R2 : α → Rel} {pre : α → Prop} {res : α → Rel} {vs : List V} {H : Hp} {Q : VK} {E : XK}
theorem dpf0 (h : DPf (fun _ => []) pre res vs H Q E) : ∃ d c B a, vs = [.ref d] ∧ Dl B H d c ∧ pre a ∧ ∀ v B' H', ExtD d c B H B' H' → res a B' v → Q v H' := by
  obtain ⟨d, c, B, a, us, rfl, L, h, p, k⟩ := h
  have h : us = [] := h
  subst h
  exact ⟨d, c, B, a, rfl, L, p, k⟩
theorem dpf1 (h : DPf (fun a => [R a]) pre res vs H Q E) : ∃ d v c B a, vs = [.ref d, v] ∧ Dl B H d c ∧ R a B v ∧ pre a ∧ ∀ v B' H', ExtD d c B H B' H' → res a B' v → Q v H' := by
  obtain ⟨d, c, B, a, us, rfl, L, ⟨v, r, rfl, h1, h⟩, p, k⟩ := h
  have h : r = [] := h
  subst h
  exact ⟨d, v, c, B, a, rfl, L, h1, p, k⟩
theorem dpf2 (h : DPf (fun a => [R a, R1 a]) pre res vs H Q E) : ∃ d v v1 c B a, vs = [.ref d, v, v1] ∧ Dl B H d c ∧ R a B v ∧ R1 a B v1 ∧ pre a ∧ ∀ v B' H', ExtD d c B H B' H' → res a B' v → Q v H' := by
  obtain ⟨d, c, B, a, us, rfl, L, ⟨v, r, rfl, h1, v1, r1, rfl, h2, h⟩, p, k⟩ := h
  have h : r1 = [] := h
  subst h
  exact ⟨d, v, v1, c, B, a, rfl, L, h1, h2, p, k⟩
end
theorem Di.itr {K : PySem.W.Frag} {σ : L2.St} {B : Hp} {lo : Int} {n : Nat} : Di (fun _ H R => R (Itr lo n) H) σ B ((List.range n).map fun i : Nat => dat K (.int (lo + (i : Int)))) := fun B1 H _ s2 Q q => q (Itr lo n) B1 H (.refl s2) wk_ints
theorem ExtD.setL {d c L : Addr} {B H B' H' : Hp} {xs ys : List V} (e : ExtD d c B H B' H') (m : Ml d c B' H' L xs) (h : H L = none) : ExtD d c B H B' (upd H' L (.lst ys)) :=
  ⟨deal_upd0 e.deal m.nd m.nc, fun b o z => by
    obtain ⟨h1, h2, h3⟩ := off_some z
    have n : b ≠ L := fun q => by rw [q, h] at h1; cases h1
    rw [off_at h2 h3, upd_ne n]
    exact (off_some (e.oo b o z)).1, e.bb, (Ml.set e.dl m).2.sub, e.nw⟩
/-- such a list comes into the base -/
theorem ExtD.settle {d c L : Addr} {B H B' H' : Hp} {xs : List V} (e : ExtD d c B H B' H') (m : Ml d c B' H' L xs) (h : H L = none) : ExtD d c B H (upd B' L (.lst xs)) H' :=
  ⟨e.deal, e.oo, e.bb.trans (new_same m.no), fun b o z => by
    by_cases n : b = L
    · subst n
      rw [upd_same] at z
      cases z
      exact (off_at m.nd m.nc).trans m.at_
    · rw [upd_ne n] at z
      exact e.sub b o z, fun b h1 h2 => by
    have n : b ≠ L := fun q => h1 (by rw [q]; exact h)
    rw [upd_ne n]
    exact e.nw b h1 h2⟩
theorem Ml.dat {K : PySem.W.Frag} {d c L : Addr} {B H : Hp} {xs : List V} {out : List PyData} (m : Ml d c B H L xs) (h : AllR (out.map (dat K)) B xs) : Wv.dat K (.list out) (upd B L (.lst xs)) (.ref L) :=
  lstR_dat ⟨L, xs, rfl, SqL.of upd_same, MoA.mo (new_same m.no) h⟩
section
variable {K : PySem.W.Frag} {σ : L2.St} {B H : Hp} {te : TE} {tt : TT} {d c : Addr} {Q : VK}
theorem c_lcD {α : Type} {as : List α} {r : α → Rel} {wi : TI} {g : TG} {vs : List Nat} (L : Dl B H d c) (hi : Di wi σ B (as.map r)) (few : as.length < sizeLine) (Pv : Nat → List PyData → Prop) (h0 : Pv 0 [])
    (hs : ∀ i a v B1 H1 out, as[i]? = some a → Dl B1 H1 d c → Same B B1 → r a B1 v → Pv i out → ∀ (Y : V → Hp → Prop) (N : Hp → Prop), (∀ y B4 H4 x, ExtD d c B1 H1 B4 H4 → dat K x B4 y → Pv (i + 1) (out ++ [x]) → Y y H4) →
      (∀ B4 H4, ExtD d c B1 H1 B4 H4 → Pv (i + 1) out → N H4) → g v (wipe σ vs) H1 fun σ2 H2 => wipe σ2 vs = wipe σ vs ∧ tt σ2 H2 fun b H3 => if b = true then te σ2 H3 Y else N H3)
    (hd : ∀ out v B' H', ExtD d c B H B' H' → Pv as.length out → dat K (.list out) B' v → Q v H') : tLc wi g tt te vs σ H Q := hi B H (Same.refl _) L.bh _ fun J B2 H2 e hw => fun D hD => by
  have eD := ExtD.of L e
  have hw' : Walk J as.length (fun H => Same B2 H) (fun i H x H' => ∃ R, (as.map r)[i]? = some R ∧ ∀ Bc, Same B2 Bc → Same Bc H → ∃ Bn, Ext Bc H Bn H' ∧ R Bn x) := by
    have := hw
    unfold Wk at this
    rw [List.length_map] at this
    exact this
  refine lc_it hw' (fun i H' => ∃ B' xs out, ExtD d c B2 H2 B' H' ∧ Ml d c B' H' D xs ∧ AllR (out.map (dat K)) B' xs ∧ Pv i out ∧ out.length ≤ i) ?_ (fun i H' _ ⟨B', xs, out, e', _⟩ => e'.bb.trans e'.bh) ?_ ?_
  · exact ⟨B2, [], [], (Ml.new eD.dl hD).2, (Ml.new eD.dl hD).1, rfl, h0, Nat.le_refl _⟩
  · rintro i x H' H'' hi' ⟨Bc, xs, out, e', m, hxs, pv, lo⟩ ⟨R, hR, y⟩
    obtain ⟨Bn, e2, hx⟩ := y Bc e'.bb e'.bh
    rw [List.getElem?_map] at hR
    obtain ⟨a, ha, rfl⟩ := Option.map_eq_some_iff.mp hR
    have e2 := ExtD.of e'.dl e2
    have e12 := e'.trans eD.dl e2
    have len := allR_len hxs
    rw [List.length_map] at len
    refine hs i a x Bn H'' out ha e2.dl ((eD.bb.trans e'.bb).trans e2.bb) hx pv _ _ (fun y B4 H4 z e4 hz pz => ?_) fun B4 H4 e4 pz => ?_
    · have e14 := e12.trans eD.dl e4
      have m4 := (m.ext e2).ext e4
      refine ⟨xs, m4.at_, by omega, B4, xs ++ [y], out ++ [z], e14.setL m4 hD, (Ml.set e4.dl m4).1, ?_, pz, by simp; omega⟩
      rw [List.map_append]
      exact allR_snoc (MoA.mo (e2.bb.trans e4.bb) hxs) hz
    · exact ⟨B4, xs, out, e12.trans eD.dl e4, (m.ext e2).ext e4, MoA.mo (e2.bb.trans e4.bb) hxs, pz, by omega⟩
  · rintro H' ⟨B', xs, out, e', m, hxs, pv, lo⟩
    have hBD : H D = none := by
      cases h : H D with
      | none => rfl
      | some o =>
        rw [e.hh D o h] at hD
        cases hD
    exact hd out (.ref D) _ H' ((eD.trans L e').settle m hBD) pv (m.dat hxs)
/-- as often as a drawn number tells -/
theorem c_lcAny {n k : Int} {i : Nat} {g : TG} {vs : List Nat} {E : XK} {te0 : TE} (L : Dl B H d c) (hd : σ[i]? = some (some (.ref d))) (hn : De te0 σ B (dat K (.int n))) (n0 : 0 < n) (n1 : n < 2 ^ 60) (k0 : 0 ≤ k) (k1 : k < 2 ^ 60)
    (go : ∀ r B' H', 0 ≤ r → r < n → ExtD d c B H B' H' → tLc (fun _ H R => R (Itr 0 (k + r).toNat) H) g tt te vs σ H' Q) :
    tLc (iRng1 (tCons (tOp (rI0 fun i j => V.int (i + j)) (tC (.int k)) (tCall spAny [] E (tCons (tVar i) (tCons te0 tNil)))) tNil)) g tt te vs σ H Q :=
  c_any L hd hn n0 (by omega) fun r B' H' r0 r1 e => ⟨k, r, rfl, rfl, k + r, rfl, by omega, by omega, go r B' H' r0 r1 e⟩
/-- what is wanted behind a turn -/
def Nd (d c : Addr) (B0 H0 B1 : Hp) (P : L2.St → Hp → Hp → Prop) : L2.St → Hp → Prop := fun σ H' => ∃ B', ExtD d c B0 H0 B' H' ∧ Same B1 B' ∧ P σ B' H'
theorem s_forD {wi : TI} {g : TG} {ts rest : TS} {D : Ends} {Rs : List Rel} {B0 H0 : Hp} (L0 : Dl B0 H0 d c) (e0 : ExtD d c B0 H0 B H) (hi : Di wi σ B Rs) (Pv : Nat → L2.St → Hp → Hp → Prop) (h0 : ∀ B1 H1, ExtD d c B H B1 H1 → Pv 0 σ B1 H1)
    (hs : ∀ B1 i R v σ' Bc Hc Bn Hn, Same B B1 → Rs[i]? = some R → ExtD d c B0 H0 Bc Hc → Same B1 Bc → Pv i σ' Bc Hc → ExtD d c Bc Hc Bn Hn → R Bn v → g v σ' Hn fun σ2 H2 => ts { D with nx := Nd d c B0 H0 B1 (Pv (i + 1)), ct := Nd d c B0 H0 B1 (Pv (i + 1)), bk := rest D } σ2 H2)
    (hd : ∀ σ' B' H', ExtD d c B0 H0 B' H' → Same B B' → Pv Rs.length σ' B' H' → rest D σ' H') : tSeq (tFor wi g ts) rest D σ H :=
  hi B H (Same.refl _) e0.bh _ fun J B1 H1 e hw => by
    have eD := ExtD.of e0.dl e
    have := for_it hw (D := { D with nx := rest D }) (g := g) (tb := ts) (fun i => Nd d c B0 H0 B1 (Pv i)) ⟨B1, e0.trans L0 eD, Same.refl _, h0 B1 H1 eD⟩ (fun i σ' H' _ ⟨B', s1, s2, _⟩ => s2.trans s1.bh)
      (fun i x σ' H' H'' hi ⟨Bc, s1, s2, p⟩ ⟨R, hR, y⟩ => by
        obtain ⟨Bn, e2, hx⟩ := y Bc s2 s1.bh
        exact hs B1 i R x σ' Bc H' Bn H'' eD.bb hR s1 s2 p (.of s1.dl e2) hx)
      (fun σ' H' ⟨B', s1, s2, p⟩ => hd σ' B' H' s1 (eD.bb.trans s2) p)
    exact this
theorem s_forL {g : TG} {ts rest : TS} {D : Ends} (h : te σ H fun x H1 => ∃ a, x = .ref a ∧ (∃ xs, SqL K H1 a xs) ∧ tSeq (tFor (fun _ H R => R (Itl K a) H) g ts) rest D σ H1) : tSeq (tFor (iList K te) g ts) rest D σ H := h
theorem Di.itl {a : Addr} {ds : List PyData} (h : dat K (.list ds) B (.ref a)) : Di (fun _ H R => R (Itl K a) H) σ B (ds.map (dat K)) := fun B1 H s1 s2 Q q => by
  obtain ⟨v, hv, a', ha, _, r⟩ := Di.listD (K := K) (De.var (i := 0) (σ := [some (.ref a)]) h rfl) B1 H s1 s2 Q q
  cases hv
  cases ha
  exact r
/-- a hidden list, looked at: the base with it -/
theorem Ml.look {L : Addr} {xs : List V} (D : Dl B H d c) (m : Ml d c B H L xs) : Same B (upd B L (.lst xs)) ∧ Same (upd B L (.lst xs)) H := ⟨new_same m.no, fun b o h => by
  by_cases n : b = L
  · subst n
    rw [upd_same] at h
    cases h
    exact m.at_
  · rw [upd_ne n] at h
    exact D.bh b o h⟩
theorem Ml.looked {L : Addr} {xs : List V} {B2 H2 : Hp} (D : Dl B H d c) (e : Ext (upd B L (.lst xs)) H B2 H2) : ExtD d c B H B H2 := .of D ⟨e.hh, Same.refl _, D.bh.trans e.hh, fun _ _ h => h⟩
end
theorem nodup_len {α : Type} [BEq α] [LawfulBEq α] : ∀ {l m : List α}, l.Nodup → (∀ x ∈ l, x ∈ m) → l.length ≤ m.length
  | [], _, _, _ => Nat.zero_le _
  | x :: l, m, h, s => by
    obtain ⟨h1, h2⟩ := List.nodup_cons.mp h
    have hx := s x List.mem_cons_self
    have := nodup_len (l := l) (m := m.erase x) h2 fun y hy => (List.mem_erase_of_ne (fun e => h1 (by rw [← e]; exact hy))).mpr (s y (List.mem_cons_of_mem _ hy))
    rw [List.length_erase_of_mem hx] at this
    have := List.length_pos_of_mem hx
    rw [List.length_cons]
    omega
end Wv

set_option Elab.async false
set_option linter.all false
set_option maxRecDepth 100000
set_option maxHeartbeats 4000000
/-! Fm0: forms, their rows and lots, as lists and as data. -/
namespace Fm
open PySem PySem.Spec PyProof.Rows L2 Wb Wv
abbrev Qs := List (Str × Nat)
def encQ (q : Str × Nat) : PyData := .tuple [.str q.1, .int (q.2 : Int)]
def qsD (qs : Qs) : PyData := .tuple (qs.map encQ)
def formR (K : PySem.W.Frag) (C : Addr) (qs : Qs) : Rel := insR C [("questions", dat K (qsD qs))]
instance {K : PySem.W.Frag} {C : Addr} {qs : Qs} : Mo (formR K C qs) := inferInstanceAs (Mo (insR C [("questions", dat K (qsD qs))]))
def lotD (l : List Str) : PyData := .tuple (l.map .str)
def rowD (r : List Int) : PyData := .tuple (r.map .int)
def rowsL (rs : List (List Int)) : PyData := .list (rs.map rowD)
def rowsT (rs : List (List Int)) : PyData := .tuple (rs.map rowD)
def names (qs : Qs) : List Str := qs.map (·.1)
/-- lo, lo + 1, .. n of them -/
def rng (lo : Int) (n : Nat) : List Int := (List.range n).map fun i : Nat => lo + (i : Int)
theorem rng_len {lo : Int} {n : Nat} : (rng lo n).length = n := by simp [rng]
/-- all rows with an item of each list -/
def grow1 {α : Type} (rows : List (List α)) (vals : List α) : List (List α) := rows.flatMap fun r => vals.map fun v => r ++ [v]
def grow {α : Type} (ls : List (List α)) : List (List α) := ls.foldl grow1 [[]]
theorem grow_snoc {α : Type} (ls : List (List α)) (l : List α) : grow (ls ++ [l]) = grow1 (grow ls) l := by
  unfold grow
  rw [List.foldl_append]
  rfl
theorem grow1_len {α : Type} (rows : List (List α)) (vals : List α) : (grow1 rows vals).length = rows.length * vals.length := by
  unfold grow1
  induction rows with
  | nil => simp
  | cons r rows ih =>
    rw [List.flatMap_cons, List.length_append, ih, List.length_map, List.length_cons, Nat.succ_mul, Nat.add_comm]
theorem grow_len {α : Type} {m : Nat} (ls : List (List α)) (h : ∀ l ∈ ls, l.length ≤ m) : (grow ls).length ≤ m ^ ls.length := by
  suffices ∀ (k : Nat), k ≤ ls.length → (grow (ls.take k)).length ≤ m ^ k by
    have := this ls.length (Nat.le_refl _)
    rw [List.take_length] at this
    exact this
  intro k
  induction k with
  | zero =>
    intro _
    rw [List.take_zero, Nat.pow_zero]
    exact Nat.le_refl _
  | succ k ih =>
    intro hk
    have e : ls.take (k + 1) = ls.take k ++ [ls[k]] := by rw [List.take_succ, List.getElem?_eq_getElem (by omega)]; rfl
    rw [e, grow_snoc, grow1_len, Nat.pow_succ]
    exact Nat.mul_le_mul (ih (by omega)) (h _ (List.getElem_mem _))
theorem grow1_mem {α : Type} {rows : List (List α)} {vals : List α} {r : List α} (h : r ∈ grow1 rows vals) : ∃ a ∈ rows, ∃ v ∈ vals, r = a ++ [v] := by
  unfold grow1 at h
  obtain ⟨a, ha, hr⟩ := List.mem_flatMap.mp h
  obtain ⟨v, hv, rfl⟩ := List.mem_map.mp hr
  exact ⟨a, ha, v, hv, rfl⟩
/-- an item of each list, in their order -/
def Picks {α : Type} : List α → List (List α) → Prop
  | [], [] => True
  | v :: r, l :: ls => v ∈ l ∧ Picks r ls
  | _, _ => False
theorem picks_snoc {α : Type} {v : α} {l : List α} (hv : v ∈ l) : ∀ {r : List α} {ls : List (List α)}, Picks r ls → Picks (r ++ [v]) (ls ++ [l])
  | [], [], _ => ⟨hv, trivial⟩
  | _ :: _, _ :: _, ⟨h, t⟩ => ⟨h, picks_snoc hv t⟩
  | [], _ :: _, h => h.elim
  | _ :: _, [], h => h.elim
theorem grow_picks {α : Type} (ls : List (List α)) : ∀ r ∈ grow ls, Picks r ls := by
  suffices ∀ k, k ≤ ls.length → ∀ r ∈ grow (ls.take k), Picks r (ls.take k) by
    have := this ls.length (Nat.le_refl _)
    rw [List.take_length] at this
    exact this
  intro k
  induction k with
  | zero =>
    intro _ r hr
    rw [List.take_zero] at *
    have hr : r ∈ [[]] := hr
    rw [List.mem_singleton.mp hr]
    trivial
  | succ k ih =>
    intro hk r hr
    have e : ls.take (k + 1) = ls.take k ++ [ls[k]] := by rw [List.take_succ, List.getElem?_eq_getElem (by omega)]; rfl
    rw [e, grow_snoc] at hr
    rw [e]
    obtain ⟨a, ha, v, hv, rfl⟩ := grow1_mem hr
    exact picks_snoc hv (ih (by omega) a ha)
theorem picks_len {α : Type} : ∀ {r : List α} {ls : List (List α)}, Picks r ls → r.length = ls.length
  | [], [], _ => rfl
  | _ :: _, _ :: _, ⟨_, t⟩ => by simp [picks_len t]
  | [], _ :: _, h => h.elim
  | _ :: _, [], h => h.elim
theorem grow_row {α : Type} {ls : List (List α)} {r : List α} (h : r ∈ grow ls) : r.length = ls.length := picks_len (grow_picks ls r h)
theorem picks_at {α : Type} : ∀ {r : List α} {ls : List (List α)} {i : Nat} {l : List α}, Picks r ls → ls[i]? = some l → ∃ v, r[i]? = some v ∧ v ∈ l
  | _ :: _, _ :: _, 0, _, ⟨h, _⟩, e => ⟨_, rfl, by cases e; exact h⟩
  | _ :: _, _ :: _, i + 1, _, ⟨_, t⟩, e => picks_at (i := i) t e
  | [], _ :: _, _, _, h, _ => h.elim
  | [], [], _, _, _, e => nomatch e
theorem grow1_map {α : Type} (f : α → α) (rows : List (List α)) (l : List α) : (grow1 rows l).map (List.map f) = grow1 (rows.map (List.map f)) (l.map f) := by
  unfold grow1
  rw [List.map_flatMap, List.flatMap_map]
  congr 1
  funext r
  rw [List.map_map, List.map_map]
  congr 1
  funext v
  simp
theorem grow_map {α : Type} (f : α → α) (ls : List (List α)) : (grow ls).map (List.map f) = grow (ls.map (List.map f)) := by
  unfold grow
  rw [List.foldl_map]
  generalize e : ([[]] : List (List α)) = z
  have e2 : z.map (List.map f) = z := by rw [← e]; rfl
  clear e
  suffices ∀ (rows rows2 : List (List α)), rows.map (List.map f) = rows2 → (ls.foldl grow1 rows).map (List.map f) = ls.foldl (fun x y => grow1 x (y.map f)) rows2 from this z z e2
  induction ls with
  | nil =>
    intro rows rows2 h
    exact h
  | cons l ls ih =>
    intro rows rows2 h
    refine ih _ _ ?_
    rw [grow1_map, h]
/-- all lots within a lot -/
def subs (l : List Str) : List (List Str) := l.foldl (fun f n => f ++ f.map fun a => a ++ [n]) [[]]
theorem subs_snoc (l : List Str) (n : Str) : subs (l ++ [n]) = subs l ++ (subs l).map fun a => a ++ [n] := by
  unfold subs
  rw [List.foldl_append]
  rfl
theorem subs_len (l : List Str) : ∀ k, k ≤ l.length → (subs (l.take k)).length = 2 ^ k := by
  intro k
  induction k with
  | zero =>
    intro _
    rw [List.take_zero]
    rfl
  | succ k ih =>
    intro hk
    have e : l.take (k + 1) = l.take k ++ [l[k]] := by rw [List.take_succ, List.getElem?_eq_getElem (by omega)]; rfl
    rw [e, subs_snoc, List.length_append, List.length_map, ih (by omega), Nat.pow_succ]
    omega
theorem subs_row {l a : List Str} (h : a ∈ subs l) : a.length ≤ l.length := by
  suffices ∀ k, k ≤ l.length → ∀ a ∈ subs (l.take k), a.length ≤ k from this l.length (Nat.le_refl _) a (by rw [List.take_length]; exact h)
  intro k
  induction k with
  | zero =>
    intro _ a ha
    rw [List.take_zero] at ha
    have ha : a ∈ [[]] := ha
    rw [List.mem_singleton.mp ha]
    exact Nat.le_refl _
  | succ k ih =>
    intro hk a ha
    have e : l.take (k + 1) = l.take k ++ [l[k]] := by rw [List.take_succ, List.getElem?_eq_getElem (by omega)]; rfl
    rw [e, subs_snoc] at ha
    rcases List.mem_append.mp ha with ha | ha
    · exact Nat.le_succ_of_le (ih (by omega) a ha)
    · obtain ⟨b, hb, rfl⟩ := List.mem_map.mp ha
      have := ih (by omega) b hb
      simp
      omega
theorem take_snoc {α : Type} {l : List α} {i : Nat} {x : α} (h : l[i]? = some x) : l.take (i + 1) = l.take i ++ [x] := by rw [List.take_succ, h]; rfl
/-- lots of names are alike -/
theorem alike_strs : ∀ a b : List Str, PySem.W.alikeAll (a.map PyData.str) (b.map PyData.str) = true
  | [], _ => by simp [PySem.W.alikeAll]
  | _ :: _, [] => by simp [PySem.W.alikeAll]
  | x :: a, y :: b => by
    simp only [List.map_cons, PySem.W.alikeAll, PySem.W.alike, Bool.true_and]
    exact alike_strs a b
theorem alike_lots (ls : List (List Str)) : PySem.W.AllAlike (ls.map lotD) := by
  intro d hd d' hd'
  obtain ⟨a, _, rfl⟩ := List.mem_map.mp hd
  obtain ⟨b, _, rfl⟩ := List.mem_map.mp hd'
  simp only [lotD, PySem.W.alike]
  exact alike_strs a b
theorem ok_lots (ls : List (List Str)) : PySem.W.SortOk (ls.map lotD) := .inl fun d hd => by
  obtain ⟨a, _, rfl⟩ := List.mem_map.mp hd
  exact ⟨_, rfl⟩
theorem depth_strs (l : List Str) : PyData.depthAll (l.map PyData.str) = 0 := by
  induction l with
  | nil => simp [PyData.depthAll]
  | cons x l ih => simp [PyData.depthAll, PyData.depth, ih]
theorem depth_lots (ls : List (List Str)) : ∀ d ∈ ls.map lotD, d.depth ≤ 60 := fun d hd => by
  obtain ⟨a, _, rfl⟩ := List.mem_map.mp hd
  simp [lotD, PyData.depth, depth_strs]
theorem depth_ints (l : List Int) : PyData.depthAll (l.map PyData.int) = 0 := by
  induction l with
  | nil => simp [PyData.depthAll]
  | cons x l ih => simp [PyData.depthAll, PyData.depth, ih]
/-- what a name's signs are -/
def Nmk (n : Nat) (z : Str) : Prop := z.length ≤ n ∧ ∀ c ∈ z.cps.toList, c < 128
abbrev Nm := Nmk 20
theorem Nmk.mono {m n : Nat} {z : Str} (h : Nmk m z) (l : m ≤ n) : Nmk n z := ⟨Nat.le_trans h.1 l, h.2⟩
theorem Nmk.app {m n : Nat} {x y : Str} (h : Nmk m x) (g : Nmk n y) : Nmk (m + n) (x ++ y) := by
  have e : (x ++ y).cps.toList = x.cps.toList ++ y.cps.toList := Array.toList_append
  refine ⟨?_, fun c hc => ?_⟩
  · have : (x ++ y).length = x.length + y.length := by
      show (x ++ y).cps.size = x.cps.size + y.cps.size
      rw [← Array.length_toList, e, List.length_append]
      rfl
    rw [this]
    exact Nat.add_le_add h.1 g.1
  · rw [e] at hc
    rcases List.mem_append.mp hc with hc | hc
    · exact h.2 c hc
    · exact g.2 c hc
theorem Nmk.cut {n : Nat} {z : Str} {lo hi : Option Int} (h : Nmk n z) : Nmk n (cutS z lo hi) := ⟨Nat.le_trans (cutS_length z lo hi) h.1, fun c hc => h.2 c (cutS_mem hc)⟩
theorem Nmk.one {a : Nat} (h : a < 128) : Nmk 1 ⟨#[a]⟩ := ⟨Nat.le_refl _, fun c hc => by
  have : c = a := by simpa using hc
  omega⟩
theorem Nm.ok {z : Str} (h : Nm z) : PyData.strOk z = true := by
  unfold PyData.strOk
  rw [← Array.all_toList, List.all_eq_true]
  intro c hc
  have := h.2 c hc
  simp only [decide_eq_true_eq]
  omega
theorem lay_strs {l : List Str} (h : ∀ z ∈ l, Nm z) : PyData.canLayAll0 (l.map PyData.str) = true := by
  rw [canLayAll_strs', List.all_eq_true]
  exact fun z hz => (h z hz).ok
theorem lay_ints (l : List Int) : PyData.canLayAll0 (l.map PyData.int) = true := by
  induction l with
  | nil => simp [PyData.canLayAll0]
  | cons x l ih => simp [PyData.canLayAll0, PyData.canLay0, ih]
theorem shaped_str {z : Str} (h : Nm z) : SeqAt.shaped (.str z) = true := by simp [SeqAt.shaped, PyData.canLay0, PyData.depth, h.ok]
theorem shaped_lot {l : List Str} (h : ∀ z ∈ l, Nm z) : SeqAt.shaped (lotD l) = true := by simp [SeqAt.shaped, lotD, PyData.canLay0, PyData.depth, lay_strs h, depth_strs]
theorem shaped_strsL {l : List Str} (h : ∀ z ∈ l, Nm z) : SeqAt.shaped (.list (l.map .str)) = true := by simp [SeqAt.shaped, PyData.canLay0, PyData.depth, lay_strs h, depth_strs]
theorem shaped_row (l : List Int) : SeqAt.shaped (rowD l) = true := by simp [SeqAt.shaped, rowD, PyData.canLay0, PyData.depth, lay_ints, depth_ints]
theorem any_strs (l : List Str) (z : Str) : ((l.map PyData.str).any fun d => PyData.eqv d (.str z)) = decide (z ∈ l) := by
  rw [List.any_map]
  induction l with
  | nil => simp
  | cons x l ih =>
    rw [List.any_cons, ih]
    simp only [Function.comp, PyData.eqv, List.mem_cons, Bool.decide_or, eq_comm (a := z)]
    rfl
theorem join_nm0 {n : Nat} {sep : Str} (hs : Nmk 0 sep) : ∀ {zs : List Str}, (∀ z ∈ zs, Nmk n z) → Nmk (zs.length * n) (Str.join sep zs)
  | [], _ => ⟨Nat.zero_le _, fun c hc => by cases hc⟩
  | [x], h => by
    have := h x List.mem_cons_self
    exact this.mono (by simp)
  | x :: y :: r, h => by
    have a := h x List.mem_cons_self
    have b := join_nm0 hs (zs := y :: r) fun z hz => h z (List.mem_cons_of_mem _ hz)
    show Nmk _ (x ++ sep ++ Str.join sep (y :: r))
    refine ((a.app hs).app b).mono ?_
    simp only [List.length_cons, Nat.succ_mul]
    omega
theorem join_nm {n : Nat} {sep : Str} (hs : Nmk 0 sep) {zs : List Str} (h : ∀ z ∈ zs, Nmk n z) : Nmk (zs.length * n) (Txt.join sep zs) := by
  unfold Txt.join
  rw [StrLaws.glued_eq_join]
  exact join_nm0 hs h
theorem sum_le {n : Nat} : ∀ {zs : List Str}, (∀ z ∈ zs, Nmk n z) → (zs.map (·.length)).sum ≤ zs.length * n
  | [], _ => Nat.zero_le _
  | x :: r, h => by
    have a := (h x List.mem_cons_self).1
    have b := sum_le (zs := r) fun z hz => h z (List.mem_cons_of_mem _ hz)
    simp only [List.map_cons, List.sum_cons, List.length_cons, Nat.succ_mul]
    omega
end Fm

set_option Elab.async false
set_option linter.all false
set_option maxRecDepth 100000
set_option maxHeartbeats 4000000
/-! Fm1: sheets, and what is behind them. -/
namespace Fm
open PySem PySem.Spec PyProof.Rows L2 Wb Wv
/-- the sheet of a lot and a truth -/
def sheetL (ns : List Str) (lot : List Str) (truth : List Int) : List Int := (ns.zip truth).map fun p => if p.1 ∈ lot then -1 else p.2
def lotL (ns : List Str) (sheet : List Int) : List Str := ((ns.zip sheet).filter fun p => decide (p.2 = -1)).map (·.1)
def behindL (qs : Qs) (sheet : List Int) : List (List Int) := grow ((qs.zip sheet).map fun p => if p.2 = -1 then rng 0 p.1.2 else [p.2])
theorem lot_sheet (lot : List Str) : ∀ (ns : List Str) (truth : List Int), ns.length = truth.length → (∀ i ∈ truth, 0 ≤ i) → lotL ns (sheetL ns lot truth) = ns.filter fun z => decide (z ∈ lot)
  | [], _, _, _ => rfl
  | z :: ns, [], h, _ => by simp at h
  | z :: ns, i :: truth, h, n => by
    have ih := lot_sheet lot ns truth (by simpa using h) fun j hj => n j (List.mem_cons_of_mem _ hj)
    have i0 := n i List.mem_cons_self
    unfold lotL sheetL at *
    rw [List.zip_cons_cons, List.map_cons, List.zip_cons_cons, List.filter_cons, List.filter_cons]
    by_cases c : z ∈ lot
    · simp only [c, if_true, decide_true]
      rw [List.map_cons, ih]
    · have e : ¬ i = -1 := by omega
      simp only [c, if_false, e, decide_false]
      simpa using ih
theorem lot_truth : ∀ (ns : List Str) (truth : List Int), (∀ i ∈ truth, 0 ≤ i) → lotL ns truth = []
  | [], _, _ => rfl
  | _ :: _, [], _ => rfl
  | z :: ns, i :: truth, n => by
    have ih := lot_truth ns truth fun j hj => n j (List.mem_cons_of_mem _ hj)
    have i0 := n i List.mem_cons_self
    unfold lotL at *
    rw [List.zip_cons_cons, List.filter_cons]
    have e : ¬ i = -1 := by omega
    simp only [e, decide_false]
    simpa using ih
theorem sheet_len (ns lot : List Str) (truth : List Int) (h : ns.length = truth.length) : (sheetL ns lot truth).length = truth.length := by
  unfold sheetL
  rw [List.length_map, List.length_zip]
  omega
theorem sheet_at {ns lot : List Str} {truth : List Int} {i : Nat} {z : Str} {t : Int} (h : ns[i]? = some z) (g : truth[i]? = some t) : (sheetL ns lot truth)[i]? = some (if z ∈ lot then -1 else t) := by
  unfold sheetL
  rw [List.getElem?_map, List.getElem?_zip_eq_some (z := (z, t)) |>.mpr ⟨h, g⟩]
  rfl
/-- where a row says otherwise than a sheet -/
def bad (due row : List Int) : List Nat := (List.range row.length).filter fun i => !decide (due.getD i 0 = -1) && !decide (due.getD i 0 = row.getD i 0)
theorem bad_snoc {due row : List Int} {x v : Int} (h : due.length = row.length) : bad (due ++ [x]) (row ++ [v]) = bad due row ++ if (!decide (x = -1) && !decide (x = v)) = true then [row.length] else [] := by
  unfold bad
  rw [List.length_append]
  show (List.range (row.length + 1)).filter _ = _
  rw [List.range_succ, List.filter_append]
  congr 1
  · refine List.filter_congr fun i hi => ?_
    have hi := List.mem_range.mp hi
    have e1 : (due ++ [x]).getD i 0 = due.getD i 0 := by
      simp only [List.getD_eq_getElem?_getD]
      rw [List.getElem?_append_left (by omega)]
    have e2 : (row ++ [v]).getD i 0 = row.getD i 0 := by
      simp only [List.getD_eq_getElem?_getD]
      rw [List.getElem?_append_left hi]
    rw [e1, e2]
  · have e1 : (due ++ [x]).getD row.length 0 = x := by
      simp only [List.getD_eq_getElem?_getD]
      rw [← h, List.getElem?_append_right (Nat.le_refl _)]
      simp
    have e2 : (row ++ [v]).getD row.length 0 = v := by
      simp only [List.getD_eq_getElem?_getD]
      rw [List.getElem?_append_right (Nat.le_refl _)]
      simp
    rw [List.filter_cons, e1, e2, List.filter_nil]
def fits (due row : List Int) : Bool := (bad due row).isEmpty
theorem fits_snoc {due row : List Int} {x v : Int} (h : due.length = row.length) : fits (due ++ [x]) (row ++ [v]) = (fits due row && (decide (x = -1) || decide (x = v))) := by
  unfold fits
  rw [bad_snoc h]
  cases c1 : decide (x = -1) <;> cases c2 : decide (x = v) <;> simp
theorem grow1_filter {α : Type} {Q : List α → Bool} {P : List α → Bool} {p : α → Bool} {vals : List α} : ∀ {rows : List (List α)}, (∀ r ∈ rows, ∀ v, Q (r ++ [v]) = (P r && p v)) → (grow1 rows vals).filter Q = grow1 (rows.filter P) (vals.filter p)
  | [], _ => rfl
  | r :: rows, h => by
    have ih := grow1_filter (vals := vals) (rows := rows) fun a ha => h a (List.mem_cons_of_mem _ ha)
    have h0 := h r List.mem_cons_self
    unfold grow1 at *
    rw [List.flatMap_cons, List.filter_append, ih, List.filter_map]
    have e : (Q ∘ fun v => r ++ [v]) = fun v => P r && p v := by
      funext v
      exact h0 v
    rw [e]
    cases c : P r with
    | true =>
      rw [List.filter_cons, c, if_pos rfl, List.flatMap_cons]
      simp
    | false =>
      rw [List.filter_cons, c, if_neg (by decide)]
      simp
theorem rng_succ (n : Nat) : rng 0 (n + 1) = rng 0 n ++ [(n : Int)] := by
  unfold rng
  rw [List.range_succ, List.map_append]
  simp
theorem rng_mem {n : Nat} {x : Int} : x ∈ rng 0 n ↔ 0 ≤ x ∧ x < n := by
  unfold rng
  rw [List.mem_map]
  constructor
  · rintro ⟨i, hi, rfl⟩
    have := List.mem_range.mp hi
    omega
  · rintro ⟨h0, h1⟩
    exact ⟨x.toNat, List.mem_range.mpr (by omega), by omega⟩
theorem rng_only {x : Int} : ∀ {n : Nat}, 0 ≤ x → x < n → (rng 0 n).filter (fun v => decide (x = -1) || decide (x = v)) = [x]
  | 0, h0, h1 => by omega
  | n + 1, h0, h1 => by
    rw [rng_succ, List.filter_append]
    by_cases e : x = n
    · have e1 : (rng 0 n).filter (fun v => decide (x = -1) || decide (x = v)) = [] := by
        rw [List.filter_eq_nil_iff]
        intro v hv
        have := rng_mem.mp hv
        simp
        omega
      rw [e1]
      simp [e]
    · rw [rng_only (n := n) h0 (by omega)]
      have e1 : ¬ x = -1 := by omega
      simp [e, e1]
theorem rng_all {n : Nat} : (rng 0 n).filter (fun v => decide ((-1 : Int) = -1) || decide ((-1 : Int) = v)) = rng 0 n := by
  rw [List.filter_eq_self]
  intro v _
  simp
/-- what is behind a sheet: the rows that say nothing else -/
theorem behind_fits {qs : Qs} {due : List Int} (h : qs.length = due.length) (ok : ∀ (i : Nat) (q : Str × Nat) (x : Int), qs[i]? = some q → due[i]? = some x → x = -1 ∨ (0 ≤ x ∧ x < q.2)) : behindL qs due = (grow (qs.map fun q => rng 0 q.2)).filter (fits due) := by
  unfold behindL
  suffices ∀ k, k ≤ qs.length → grow (((qs.zip due).take k).map fun p => if p.2 = -1 then rng 0 p.1.2 else [p.2]) = (grow ((qs.take k).map fun q => rng 0 q.2)).filter (fits (due.take k)) by
    have t := this qs.length (Nat.le_refl _)
    rw [List.take_length, List.take_of_length_le (by rw [List.length_zip]; omega), List.take_of_length_le (l := due) (by omega)] at t
    exact t
  intro k
  induction k with
  | zero =>
    intro _
    rw [List.take_zero, List.take_zero, List.take_zero]
    rfl
  | succ k ih =>
    intro hk
    obtain ⟨q, hq⟩ : ∃ q, qs[k]? = some q := ⟨_, List.getElem?_eq_getElem (by omega)⟩
    obtain ⟨x, hx⟩ : ∃ x, due[k]? = some x := ⟨_, List.getElem?_eq_getElem (by omega)⟩
    have hz : (qs.zip due)[k]? = some (q, x) := List.getElem?_zip_eq_some.mpr ⟨hq, hx⟩
    rw [take_snoc hz, take_snoc hq, take_snoc hx, List.map_append, List.map_append]
    show grow (_ ++ [_]) = (grow (_ ++ [_])).filter _
    rw [grow_snoc, grow_snoc, ih (by omega), grow1_filter (P := fits (due.take k)) (p := fun v => decide (x = -1) || decide (x = v))]
    · congr 1
      rcases ok k q x hq hx with e | ⟨h0, h1⟩
      · subst e
        rw [rng_all]
        rfl
      · rw [rng_only h0 h1]
        have e : ¬ x = -1 := by omega
        simp [e]
    · intro r hr v
      refine fits_snoc ?_
      rw [grow_row hr, List.length_map, List.length_take, List.length_take]
      omega
theorem fits_own {ns lot : List Str} {truth : List Int} (h : ns.length = truth.length) : fits (sheetL ns lot truth) truth = true := by
  unfold fits bad
  rw [List.isEmpty_iff, List.filter_eq_nil_iff]
  intro i hi
  have hi := List.mem_range.mp hi
  obtain ⟨z, hz⟩ : ∃ z, ns[i]? = some z := ⟨_, List.getElem?_eq_getElem (by omega)⟩
  obtain ⟨t, ht⟩ : ∃ t, truth[i]? = some t := ⟨_, List.getElem?_eq_getElem hi⟩
  have e := sheet_at (lot := lot) hz ht
  simp only [List.getD_eq_getElem?_getD, e, ht, Option.getD_some]
  by_cases c : z ∈ lot <;> simp [c]
end Fm

set_option Elab.async false
set_option linter.all false
set_option maxRecDepth 100000
set_option maxHeartbeats 4000000
/-! Wv7: comparisons of what is the same. -/
namespace Wv
open PySem PySem.Spec PyProof.Rows L2 Wb
theorem eqv_shaped {d : PyData} (h : SeqAt.shaped d = true) : PyData.eqv d d = true := by
  unfold SeqAt.shaped at h
  rw [Bool.and_eq_true] at h
  exact SeqAt.eqv_refl d h.1
section
variable {K : PySem.W.Frag} {σ : L2.St} {B H : Hp} {ta tb te tk : TE} {tt tu : TT} {R S T : Rel} {d e : PyData}
theorem De.reprs (ha : De ta σ B (dat K d)) (hb : De tb σ B (dat K d)) (hs : Shw d) : De (tOp rEq (tCB (rShow K) (tCons ta tNil)) (tCB (rShow K) (tCons tb tNil))) σ B (dat K (.bool true)) := De.eq (.op (.show ha hs) (.show hb hs) Rv.eqS) (by simp)
theorem De.same (ha : De ta σ B (dat K d)) (hb : De tb σ B (dat K d)) (hs : SeqAt.shaped d = true) : De (tOp (rEqD K) ta tb) σ B (dat K (.bool true)) := De.eq (.op ha hb (Rv.eqD hs hs)) (by rw [eqv_shaped hs])
theorem Dt.reprs (ha : De ta σ B (dat K d)) (hb : De tb σ B (dat K d)) (hs : Shw d) : Dt (tTest (tOp rNe (tCB (rShow K) (tCons ta tNil)) (tCB (rShow K) (tCons tb tNil)))) σ B false := Dt.eq (.test (K := K) (.op (.show ha hs) (.show hb hs) Rv.neS)) (by simp)
theorem Dt.same (ha : De ta σ B (dat K d)) (hb : De tb σ B (dat K d)) (hs : SeqAt.shaped d = true) : Dt (tTest (tOp (rNeD K) ta tb)) σ B false := Dt.eq (.test (K := K) (.op ha hb (Rv.neD hs hs))) (by rw [eqv_shaped hs]; rfl)
theorem Dt.sameI {i : Int} (ha : De ta σ B (dat K (.int i))) (hb : De tb σ B (dat K (.int i))) : Dt (tTest (tOp rNe ta tb)) σ B false := Dt.eq (.test (K := K) (.op ha hb Rv.neI)) (by simp)
theorem Dt.or2 (h1 : Dt tt σ B false) (h2 : Dt tu σ B false) : Dt (tOr tt tu) σ B false := .or h1 fun _ => h2
theorem De.and2 (h1 : De ta σ B (dat K (.bool true))) (h2 : De tb σ B (dat K (.bool true))) : De (tAndV ta tb) σ B (dat K (.bool true)) := .andV h1 fun _ => h2
end
section
variable {R R1 R2 : Rel} {B : Hp} {vs : List V}
theorem kw1 (h : AllR [R] B vs) : AllR [R] B (kwV [0] vs) := by
  obtain ⟨v, r, rfl, h1, h⟩ := h
  exact ⟨v, [], rfl, h1, rfl⟩
theorem kw2 (h : AllR [R1, R] B vs) : AllR [R, R1] B (kwV [1, 0] vs) := by
  obtain ⟨v, r, rfl, h1, v1, r1, rfl, h2, h⟩ := h
  exact ⟨v1, [v], rfl, h2, v, [], rfl, h1, rfl⟩
theorem kw3 (h : AllR [R2, R1, R] B vs) : AllR [R, R1, R2] B (kwV [2, 1, 0] vs) := by
  obtain ⟨v, r, rfl, h1, v1, r1, rfl, h2, v2, r2, rfl, h3, h⟩ := h
  exact ⟨v2, _, rfl, h3, v1, _, rfl, h2, v, [], rfl, h1, rfl⟩
end
end Wv

set_option Elab.async false
set_option linter.all false
set_option maxRecDepth 100000
set_option maxHeartbeats 4000000
/-! Wv8: what type data is of. -/
namespace Wv
open PySem PySem.Spec PyProof.Rows L2 Wb
def tyN : PyData → String
  | .none => "NoneType"
  | .bool _ => "bool"
  | .int _ => "int"
  | .str _ => "str"
  | .list _ => "list"
  | .tuple _ => "tuple"
  | .dict _ => "dict"
theorem ty_dat {K : PySem.W.Frag} {H : Hp} {v : V} {d : PyData} (h : Dp K H v d) : TyX K H v (.type (tyN d)) := by
  cases h with
  | non => exact .base .non
  | bl b => exact .base (.bl b)
  | int i => exact .base (.int i)
  | str z => exact .base (.str z)
  | lst hs _ =>
    rcases hs with (h | ⟨o, h⟩) | ⟨o, its, n, h, c, _⟩
    · exact .base (.lst h)
    · exact .base (.frz h)
    · exact .kList h c
  | tup hs _ =>
    rcases hs with (h | ⟨o, h⟩) | ⟨o, its, n, h, c, _⟩
    · exact .base (.tup h)
    · exact .fTuple h
    · exact .kTuple h c
/-- which built-in class it is of -/
def isD (X : String) (d : PyData) : Bool := tyN d == X || (tyN d == "bool" && X == "int")
theorem kit_data {K : PySem.W.Frag} : ∀ X ∈ ["int", "bool", "str", "tuple", "list"], ∀ t ∈ ["NoneType", "bool", "int", "str", "list", "tuple", "dict"], PySem.W.kitOne K (.type t) (.type X) = some (t == X || (t == "bool" && X == "int")) := by
  intro X hX t ht
  simp only [List.mem_cons, List.not_mem_nil, or_false] at hX ht
  rcases hX with rfl | rfl | rfl | rfl | rfl <;> rcases ht with rfl | rfl | rfl | rfl | rfl | rfl | rfl <;> rfl
theorem tyN_mem (d : PyData) : tyN d ∈ ["NoneType", "bool", "int", "str", "list", "tuple", "dict"] := by cases d <;> simp [tyN]
section
variable {K : PySem.W.Frag} {σ : L2.St} {B : Hp} {ta : TE} {d : PyData}
theorem De.isi {X : String} (h : De ta σ B (dat K d)) (hX : X ∈ ["int", "bool", "str", "tuple", "list"]) : De (tCB (rIsi K) (tCons ta (tCons (tC (.ty X)) tNil))) σ B (dat K (.bool (isD X d))) := fun B1 H s1 s2 Q q =>
  h B1 H s1 s2 _ fun v B2 H2 e hv => ⟨v, .ty X, _, _, _, rfl, .ty X, ty_dat (dpMono e.bh _ _ hv), kit_data X hX _ (tyN_mem d), q _ B2 H2 e (Dp.bl _)⟩
/-- a <= b <= c, of numbers -/
theorem De.chain {r r' : R2} {ta tb tc : TE} {R S T : Rel} {b1 b2 : Bool} [m1 : Mo R] [m2 : Mo S] (ha : De ta σ B R) (hb : De tb σ B S) (hr : Rv r B R S (dat K (.bool b1))) (hc : b1 = true → De tc σ B T) (hr' : b1 = true → Rv r' B S T (dat K (.bool b2))) : De (tChain r r' ta tb tc) σ B (dat K (.bool (b1 && b2))) := fun B1 H s1 s2 Q q =>
  ha B1 H s1 s2 _ fun x B2 H2 e hx => hb B2 H2 (s1.trans e.bb) e.bh _ fun y B3 H3 e2 hy => hr x y B3 H3 ((s1.trans e.bb).trans e2.bb) e2.bh (m1.mo e2.bb hx) hy _ fun z B4 H4 e3 hz => ⟨b1, dat_bl hz, by
    have e4 := (e.trans e2).trans e3
    cases b1 with
    | false => exact q _ B4 H4 e4 (Dp.bl _)
    | true => exact hc rfl B4 H4 (s1.trans e4.bb) e4.bh _ fun w B5 H5 e5 hw => hr' rfl y w B5 H5 ((s1.trans e4.bb).trans e5.bb) e5.bh (m2.mo (e3.bb.trans e5.bb) hy) hw Q fun v B6 H6 e6 hv => q v B6 H6 ((e4.trans e5).trans e6) hv⟩
/-- a question to a text -/
theorem De.m0 {f : Str → Bool} {z : Str} (h : De ta σ B (dat K (.str z))) : De (tM0 (fun x xs H Q => ∃ a, x = .str a ∧ xs = [] ∧ True ∧ Q (.bl (f a)) H) ta) σ B (dat K (.bool (f z))) := fun B1 H s1 s2 Q q =>
  h B1 H s1 s2 _ fun v B2 H2 e hv => ⟨⟨z, dat_str hv⟩, z, dat_str hv, rfl, trivial, q _ B2 H2 e (Dp.bl _)⟩
theorem De.lenS {z : Str} (h : De ta σ B (dat K (.str z))) (hz : z.length ≤ sizeLine) : De (tCB (fun xs H Q => ∃ x n, xs = [x] ∧ LenV K x H n ∧ Q (.int n) H) (tCons ta tNil)) σ B (dat K (.int (z.length : Int))) := .cb (.one h) (rc_lenS hz)
end
end Wv

set_option Elab.async false
set_option linter.all false
set_option maxRecDepth 100000
set_option maxHeartbeats 4000000
/-! K30a: the program's kinds of values. -/
namespace K30
open PySem PySem.Spec PyProof.Rows L2 Wb Wv Fm
def topS (i : Nat) : Stmt := PySem.Challenge.pw_whyblank_k30_any_values_as_letters_and_t.main.body.getD i (.Pass ⟨0, 0, 0, 0⟩)
abbrev s_isInt : Stmt := topS 6
abbrev s_isNumber : Stmt := topS 7
abbrev s_isName : Stmt := topS 8
abbrev s_isTupleOf : Stmt := topS 9
abbrev s_isMany : Stmt := topS 13
abbrev s_mayFollow : Stmt := topS 14
abbrev s_formFault : Stmt := topS 15
abbrev s_isForm : Stmt := topS 16
abbrev s_areAnswers : Stmt := topS 17
abbrev s_isSheet : Stmt := topS 18
abbrev s_isWord : Stmt := topS 21
abbrev s_needLetter : Stmt := topS 22
abbrev s_areWords : Stmt := topS 23
abbrev s_isRow : Stmt := topS 24
abbrev s_tallyFault : Stmt := topS 25
abbrev s_needTally : Stmt := topS 26
abbrev s_isTally : Stmt := topS 27
abbrev s_source : Stmt := topS 29
abbrev s_any : Stmt := topS 30
abbrev s_of : Stmt := topS 31
abbrev s_lname : Stmt := topS 32
abbrev s_lnames : Stmt := topS 33
abbrev s_lform : Stmt := topS 34
abbrev s_lrows : Stmt := topS 35
abbrev s_lletters : Stmt := topS 36
abbrev s_due : Stmt := topS 37
abbrev s_once : Stmt := topS 38
abbrev s_thing : Stmt := topS 39
abbrev s_bent : Stmt := topS 40
abbrev s_lisNum : Stmt := topS 41
abbrev s_lisWord : Stmt := topS 42
abbrev s_lisLetter : Stmt := topS 43
abbrev s_lisRow : Stmt := topS 44
abbrev s_wrong : Stmt := topS 45
abbrev s_told : Stmt := topS 46
abbrev s_lheard : Stmt := topS 47
abbrev s_law : Stmt := topS 48
def isIntD (d : PyData) : Bool := isD "int" d && !isD "bool" d
def isTupD (d : PyData) (n : Int) : Bool := match d with
  | .tuple ds => decide ((ds.length : Int) = n)
  | _ => false
def isNmS (z : Str) : Bool := decide (1 ≤ z.length ∧ z.length ≤ 8) && (Txt.isascii z && (Txt.isalpha z && Txt.islower z))
def isNmD (d : PyData) : Bool := match d with
  | .str z => isNmS z
  | _ => false
abbrev sp_isInt (K : PySem.W.Frag) : Sp := Pf (α := PyData) (fun d => [dat K d]) (fun _ => True) (fun d => dat K (.bool (isIntD d)))
abbrev sp_isTupleOf (K : PySem.W.Frag) : Sp := Pf (α := PyData × Int) (fun a => [dat K a.1, dat K (.int a.2)]) (fun _ => True) (fun a => dat K (.bool (isTupD a.1 a.2)))
abbrev sp_isName (K : PySem.W.Frag) : Sp := Pf (α := PyData) (fun d => [dat K d]) (fun d => ∀ z, d = .str z → z.length ≤ sizeLine) (fun d => dat K (.bool (isNmD d)))
section
variable {P : Program} {w : World} {K : PySem.W.Frag} {mg : Str → Option Value} {base : Heap} {C_Form C_InvalidForm C_BlankError : Addr}
theorem sc_isInt : FnScope ["value"] ["value"] (defScope s_isInt) := ⟨rfl, rfl, rfl, by decide +kernel, rfl, by decide +kernel, by decide +kernel⟩
theorem ok_isInt (D : Def K mg "is_int" s_isInt ["value"]) (n_int : mg "int" = none) (n_isinstance : mg "isinstance" = none) (n_bool : mg "bool" = none) : Cal P w K mg base CX0 1 "is_int" s_isInt ["value"] (sp_isInt K) := by
  refine D.ok sc_isInt (fun vs H Q E h => ?_) (fun cdv f A outer s H vs Q E hr h => ?_)
  · exact pf_len h fun _ => rfl
  replace h := pf1 h
  obtain ⟨v, B, d, rfl, hB, hv, _, k⟩ := h
  refine ⟨_, (pss_one (ps_ret (pe_and (pe_callB call_isi (by rfl) n_isinstance (by decide +kernel) (pa_cons (pv 0) (pa_cons (pe_bltn (by rfl) n_int (by decide +kernel) (show RelV (.ty "int") (.type "int") from rfl)) pa_nil))) (pe_one (pe_not (pe_callB call_isi (by rfl) n_isinstance (by decide +kernel) (pa_cons (pv 0) (pa_cons (pe_bltn (by rfl) n_bool (by decide +kernel) (show RelV (.ty "bool") (.type "bool") from rfl)) pa_nil)))))))), ?_⟩
  exact s_ret (De.andV (De.isi (.var hv rfl) (by simp)) fun _ => De.notV (De.isi (.var hv rfl) (by simp))) hB k
theorem sc_isTupleOf : FnScope ["value", "many"] ["value", "many"] (defScope s_isTupleOf) := ⟨rfl, rfl, rfl, by decide +kernel, rfl, by decide +kernel, by decide +kernel⟩
theorem ok_isTupleOf (D : Def K mg "is_tuple_of" s_isTupleOf ["value", "many"]) (n_tuple : mg "tuple" = none) (n_isinstance : mg "isinstance" = none) (n_len : mg "len" = none) : Cal P w K mg base CX0 1 "is_tuple_of" s_isTupleOf ["value", "many"] (sp_isTupleOf K) := by
  refine D.ok sc_isTupleOf (fun vs H Q E h => ?_) (fun cdv f A outer s H vs Q E hr h => ?_)
  · exact pf_len h fun _ => rfl
  replace h := pf2 h
  obtain ⟨v, v1, B, ⟨d, n⟩, rfl, hB, hv, hv1, _, k⟩ := h
  refine ⟨_, (pss_one (ps_ret (pe_and (pe_callB call_isi (by rfl) n_isinstance (by decide +kernel) (pa_cons (pv 0) (pa_cons (pe_bltn (by rfl) n_tuple (by decide +kernel) (show RelV (.ty "tuple") (.type "tuple") from rfl)) pa_nil))) (pe_one (pe_cmpR op_eq (pe_callB call_len (by rfl) n_len (by decide +kernel) (pa_cons (pv 0) pa_nil)) (pv 1) (nomark _)))))), ?_⟩
  have hv : dat K d B v := hv
  have k : ∀ (v : V) (B' H' : Hp), Ext B H B' H' → dat K (.bool (isTupD d n)) B' v → Q v H' := k
  refine s_ret (De.andV (a := isD "tuple" d) (b := isTupD d n) (De.isi (.var hv rfl) (by simp)) fun t => ?_) hB fun v B' H' e h => k v B' H' e ?_
  · cases d with
    | tuple ds => exact De.op (r := rEq) (De.lenT (.var hv rfl)) (.var hv1 rfl) Rv.eqI
    | none => cases t
    | bool b => cases t
    | int i => cases t
    | str z => cases t
    | list ds => cases t
    | dict ds => cases t
  · cases d with
    | tuple ds => exact h
    | _ => exact h
theorem sc_isName : FnScope ["value"] ["value"] (defScope s_isName) := ⟨rfl, rfl, rfl, by decide +kernel, rfl, by decide +kernel, by decide +kernel⟩
theorem ok_isName (D : Def K mg "is_name" s_isName ["value"]) (n_str : mg "str" = none) (n_isinstance : mg "isinstance" = none) (n_len : mg "len" = none) : Cal P w K mg base CX0 1 "is_name" s_isName ["value"] (sp_isName K) := by
  refine D.ok sc_isName (fun vs H Q E h => ?_) (fun cdv f A outer s H vs Q E hr h => ?_)
  · exact pf_len h fun _ => rfl
  replace h := pf1 h
  obtain ⟨v, B, d, rfl, hB, hv, short, k⟩ := h
  refine ⟨_, (pss_cons (ps_if (PW.pt (pw_or (pt_not (pt_val (pe_callB call_isi (by rfl) n_isinstance (by decide +kernel) (pa_cons (pv 0) (pa_cons (pe_bltn (by rfl) n_str (by decide +kernel) (show RelV (.ty "str") (.type "str") from rfl)) pa_nil))))) (pw_or1 (pt_not (pt_chain op_le op_le pe_int (pe_callB call_len (by rfl) n_len (by decide +kernel) (pa_cons (pv 0) pa_nil)) pe_int))))) (pss_one (ps_ret pe_bl)) pss_nil)
    (pss_one (ps_ret (pe_and (pe_m0 PySem.F.slot_str_isascii PySem.F.type_str_isascii mt_isascii (pv 0)) (pe_and (pe_m0 PySem.F.slot_str_isalpha PySem.F.type_str_isalpha mt_isalpha (pv 0)) (pe_one (pe_m0 PySem.F.slot_str_islower PySem.F.type_str_islower mt_islower (pv 0)))))))), ?_⟩
  cases hd : d with
  | str z =>
    subst hd
    have hz := short z rfl
    have k : ∀ (v : V) (B' H' : Hp), Ext B H B' H' → dat K (.bool (isNmS z)) B' v → Q v H' := k
    unfold isNmS at k
    refine s_ifS (b := !(decide ((1 : Int) ≤ z.length) && decide ((z.length : Int) ≤ 8))) (Dt.eq (Dt.or (a := false) (Dt.eq (Dt.not (Dt.tB (De.isi (.var hv rfl) (by simp)))) rfl) fun _ => Dt.not (Dt.test (K := K) (De.chain (r := rI0 fun i j => V.bl (decide (i ≤ j))) (r' := rI0 fun i j => V.bl (decide (i ≤ j))) .int (De.lenS (.var hv rfl) hz) Rv.I0b (fun _ => .int) fun _ => Rv.I0b))) (by simp)) hB (fun t B1 H1 e1 => ?_) fun f B1 H1 e1 => ?_
    · refine s_ret (De.bl (K := K)) e1.bh fun v B' H' e h => k v B' H' (e1.trans e) ?_
      have : decide (1 ≤ z.length ∧ z.length ≤ 8) = false := by
        simp at t
        simp
        omega
      rw [this]
      exact h
    · have : decide (1 ≤ z.length ∧ z.length ≤ 8) = true := by
        simp at f
        simp
        omega
      rw [this] at k
      exact s_ret (De.andV (De.m0 (.var (Mo.mo e1.bb hv) rfl)) fun _ => De.andV (De.m0 (.var (Mo.mo e1.bb hv) rfl)) fun _ => De.m0 (.var (Mo.mo e1.bb hv) rfl)) e1.bh fun v B' H' e h => k v B' H' (e1.trans e) h
  | _ =>
    subst hd
    refine s_ifS (b := true) (Dt.eq (Dt.or (a := true) (b := true) (Dt.eq (Dt.not (Dt.tB (De.isi (.var hv rfl) (by simp)))) rfl) fun z => nomatch z) rfl) hB (fun t B1 H1 e1 => ?_) fun z => nomatch z
    exact s_ret (De.bl (K := K)) e1.bh fun v B' H' e h => k v B' H' (e1.trans e) h
end
end K30

set_option Elab.async false
set_option linter.all false
set_option maxRecDepth 100000
set_option maxHeartbeats 4000000
/-! Wx0: what is evaluated while a deal is drawn from, told like De. -/
namespace Wv
open PySem PySem.Spec PyProof.Rows L2 Wb
def Dw (te : TE) (σ : L2.St) (d c : Addr) (B : Hp) (R : Rel) : Prop := ∀ B1 H, Same B B1 → Dl B1 H d c → ∀ Q : VK, (∀ v B' H', ExtD d c B1 H B' H' → R B' v → Q v H') → te σ H Q
def Dwa (ta : TA) (σ : L2.St) (d c : Addr) (B : Hp) (Rs : List Rel) : Prop := ∀ B1 H, Same B B1 → Dl B1 H d c → ∀ Q : List V → Hp → Prop, (∀ vs B' H', ExtD d c B1 H B' H' → AllR Rs B' vs → Q vs H') → ta σ H Q
/-- so many values of one kind -/
def Dwn (ta : TA) (σ : L2.St) (d c : Addr) (B : Hp) (S : Rel) (n : Nat) : Prop := ∀ B1 H, Same B B1 → Dl B1 H d c → ∀ Q : List V → Hp → Prop, (∀ vs B' H', ExtD d c B1 H B' H' → vs.length = n → (∀ v ∈ vs, S B' v) → Q vs H') → ta σ H Q
/-- a test whose outcome is open -/
def Dtw (tt : TT) (σ : L2.St) (d c : Addr) (B : Hp) : Prop := ∀ B1 H, Same B B1 → Dl B1 H d c → ∀ Q : Bool → Hp → Prop, (∀ b B' H', ExtD d c B1 H B' H' → Q b H') → tt σ H Q
def intP (P : Int → Prop) : Rel := fun _ v => ∃ i, P i ∧ v = .int i
instance {P : Int → Prop} : Mo (intP P) := ⟨fun _ h => h⟩
def datP (K : PySem.W.Frag) (P : PyData → Prop) : Rel := fun B v => ∃ d, P d ∧ dat K d B v
instance {K : PySem.W.Frag} {P : PyData → Prop} : Mo (datP K P) := ⟨fun s ⟨d, h, g⟩ => ⟨d, h, dpMono s _ _ g⟩⟩
def lstS (K : PySem.W.Frag) (S : Rel) (n : Nat) : Rel := fun B v => ∃ a xs, v = .ref a ∧ SqL K B a xs ∧ xs.length = n ∧ ∀ x ∈ xs, S B x
instance {K : PySem.W.Frag} {S : Rel} {n : Nat} [m : Mo S] : Mo (lstS K S n) := ⟨fun s ⟨a, xs, e, h, l, g⟩ => ⟨a, xs, e, s.seq h, l, fun x hx => m.mo s (g x hx)⟩⟩
theorem dpAll_app {K : PySem.W.Frag} {B : Hp} : ∀ {vs ws : List V} {ds es : List PyData}, DpAll K B vs ds → DpAll K B ws es → DpAll K B (vs ++ ws) (ds ++ es)
  | _, _, _, _, .nil, h => h
  | _, _, _, _, .cons h t, g => .cons h (dpAll_app t g)
section
variable {K : PySem.W.Frag} {σ : L2.St} {d c : Addr} {B B' H : Hp} {te ta tb : TE} {tt tu : TT} {R S T : Rel} {Rs : List Rel} {E : XK} {i : Nat}
theorem Dw.of (h : De te σ B R) : Dw te σ d c B R := fun B1 H s L Q k => h B1 H s L.bh Q fun v B' H' e hv => k v B' H' (.of L e) hv
theorem Dw.mono (s : Same B B') (h : Dw te σ d c B R) : Dw te σ d c B' R := fun B1 H s1 L => h B1 H (s.trans s1) L
theorem Dwa.mono {ta : TA} (s : Same B B') (h : Dwa ta σ d c B Rs) : Dwa ta σ d c B' Rs := fun B1 H s1 L => h B1 H (s.trans s1) L
theorem Dw.cv (h : Dw te σ d c B R) (f : ∀ B v, R B v → S B v) : Dw te σ d c B S := fun B1 H s L Q k => h B1 H s L Q fun v B' H' e hv => k v B' H' e (f _ _ hv)
theorem Dwa.nil : Dwa tNil σ d c B [] := fun B1 H _ L Q k => k [] B1 H (.refl L) rfl
theorem Dwa.cons {tr : TA} [m : Mo R] (h : Dw te σ d c B R) (t : Dwa tr σ d c B Rs) : Dwa (tCons te tr) σ d c B (R :: Rs) := fun B1 H s L Q k =>
  h B1 H s L _ fun v B2 H2 e hv => t B2 H2 (s.trans e.bb) e.dl _ fun vs B3 H3 e2 hvs => k _ B3 H3 (e.trans L e2) ⟨v, vs, rfl, m.mo e2.bb hv, hvs⟩
theorem Dwa.of {tr : TA} (h : Da tr σ B Rs) : Dwa tr σ d c B Rs := fun B1 H s L Q k => h B1 H s L.bh Q fun vs B' H' e hv => k vs B' H' (.of L e) hv
theorem Dwa.one (h : Dw te σ d c B R) [m : Mo R] : Dwa (tCons te tNil) σ d c B [R] := .cons h .nil
theorem Dwn.nil : Dwn tNil σ d c B S 0 := fun B1 H _ L Q k => k [] B1 H (.refl L) rfl fun v h => nomatch h
theorem Dwn.cons {tr : TA} {n : Nat} [m : Mo S] (h : Dw te σ d c B S) (t : Dwn tr σ d c B S n) : Dwn (tCons te tr) σ d c B S (n + 1) := fun B1 H s L Q k =>
  h B1 H s L _ fun v B2 H2 e hv => t B2 H2 (s.trans e.bb) e.dl _ fun vs B3 H3 e2 hl hvs => k _ B3 H3 (e.trans L e2) (by simp [hl]) fun x hx => by
    rcases List.mem_cons.mp hx with rfl | hx
    · exact m.mo e2.bb hv
    · exact hvs x hx
theorem Dw.D1 {x : PyData} {P : PyData → Prop} (h : De te σ B (dat K x)) (hp : P x) : Dw te σ d c B (datP K P) := .cv (.of h) fun _ _ hv => ⟨x, hp, hv⟩
theorem Dw.any {n : Int} (hd : σ[i]? = some (some (.ref d))) (hn : De te σ B (dat K (.int n))) (n0 : 0 < n) (n1 : n < 2 ^ 300) : Dw (tCall spAny [] E (tCons (tVar i) (tCons te tNil))) σ d c B (intP fun r => 0 ≤ r ∧ r < n) := fun B1 H s L Q k =>
  c_any L hd (hn.mono s) n0 n1 fun r B' H' r0 r1 e => k _ B' H' e ⟨r, ⟨r0, r1⟩, rfl⟩
/-- some of a list, whatever is drawn for its items -/
theorem Dw.ofS {n : Nat} (hd : σ[i]? = some (some (.ref d))) (h : Dw te σ d c B (lstS K S n)) (n0 : 0 < n) (few : n ≤ 1000) [m : Mo S] : Dw (tCall (spOf K) [] E (tCons (tVar i) (tCons te tNil))) σ d c B S := fun B1 H s L Q k =>
  ⟨.ref d, hd, h B1 H s L _ fun v B2 H2 e hv => by
    obtain ⟨p, xs, rfl, hs, hl, hx⟩ := hv
    refine ⟨d, c, .ref p, rfl, e.deal, .inl ⟨p, xs, rfl, e.sub.seq hs, fun z => by rw [z] at hl; simp at hl; omega, by omega, fun v H3 hv D3 S3 => ?_⟩⟩
    exact k v B2 H3 (.trans L e (.draw e.dl D3 S3)) (hx v hv)⟩
theorem Dw.lstN {tr : TA} {n : Nat} [m : Mo S] (h : Dwn tr σ d c B S n) (hz : n ≤ sizeLine) : Dw (tLst tr) σ d c B (lstS K S n) := fun B1 H s L Q k =>
  h B1 H s L _ fun vs B2 H2 e hl hv => ⟨by omega, fun p hp => k _ (upd B2 p (.lst vs)) _ (e.trans L (.of e.dl (Ext.new e.bh hp))) ⟨p, vs, rfl, SqL.of upd_same, hl, fun x hx => m.mo (new_same (e.bh.free hp)) (hv x hx)⟩⟩
/-- some item of a written list with drawn items -/
theorem Dw.pick {tr : TA} {n : Nat} [m : Mo S] (hd : σ[i]? = some (some (.ref d))) (h : Dwn tr σ d c B S n) (n0 : 0 < n) (few : n ≤ 1000) : Dw (tCall (spOf K) [] E (tCons (tVar i) (tCons (tLst tr) tNil))) σ d c B S :=
  .ofS hd (.lstN h (by rw [sizeLine_eq]; omega)) n0 few
theorem Dw.ofL {ds : List PyData} (hd : σ[i]? = some (some (.ref d))) (h : De te σ B (dat K (.list ds))) (ne : ds ≠ []) (few : ds.length ≤ 1000) : Dw (tCall (spOf K) [] E (tCons (tVar i) (tCons te tNil))) σ d c B (datP K fun x => x ∈ ds) := fun B1 H s L Q k =>
  c_ofL L hd (h.mono s) ne few fun x v B' H' hx e hv => k v B' H' e ⟨x, hx, hv⟩
theorem Dw.ofT {ds : List PyData} (hd : σ[i]? = some (some (.ref d))) (h : De te σ B (dat K (.tuple ds))) (ne : ds ≠ []) (few : ds.length ≤ 1000) : Dw (tCall (spOf K) [] E (tCons (tVar i) (tCons te tNil))) σ d c B (datP K fun x => x ∈ ds) := fun B1 H s L Q k =>
  c_ofT L hd (h.mono s) ne few fun x v B' H' hx e hv => k v B' H' e ⟨x, hx, hv⟩
theorem Dw.tup {tr : TA} [m : MoA Rs] (h : Dwa tr σ d c B Rs) (hz : Rs.length ≤ sizeLine) : Dw (tTup tr) σ d c B (tupR K Rs) := fun B1 H s L Q k =>
  h B1 H s L _ fun vs B2 H2 e hv => ⟨by rw [allR_len hv]; exact hz, fun p hp => k _ (upd B2 p (.tup vs)) _ (e.trans L (.of e.dl (Ext.new e.bh hp))) ⟨p, vs, rfl, SqT.of upd_same, m.mo (new_same (e.bh.free hp)) hv⟩⟩
theorem Dw.op {r : R2} [m : Mo R] (ha : Dw ta σ d c B R) (hb : Dw tb σ d c B S) (hr : ∀ B, Rv r B R S T) : Dw (tOp r ta tb) σ d c B T := fun B1 H s L Q k =>
  ha B1 H s L _ fun x B2 H2 e hx => hb B2 H2 (s.trans e.bb) e.dl _ fun y B3 H3 e2 hy => hr B3 x y B3 H3 (Same.refl _) e2.bh (m.mo e2.bb hx) hy _ fun v B4 H4 e3 hv => k v B4 H4 ((e.trans L e2).trans L (.of e2.dl e3)) hv
theorem Rv.intP {f : Int → Int → Int} {P P' : Int → Prop} : Rv (rI0 fun i j => V.int (f i j)) B (intP P) (intP P') (intP fun k => ∃ i j, P i ∧ P' j ∧ k = f i j) := fun x y B1 H _ s2 ⟨i, hi, hx⟩ ⟨j, hj, hy⟩ Q q =>
  ⟨i, j, hx, hy, q _ B1 H (.refl s2) ⟨_, ⟨i, j, hi, hj, rfl⟩, rfl⟩⟩
theorem Dw.int {n : Int} : Dw (tC (.int n)) σ d c B (intP fun k => k = n) := fun B1 H _ L Q k => k _ B1 H (.refl L) ⟨n, rfl, rfl⟩
theorem Dw.intV {n : Int} (h : σ[i]? = some (some (.int n))) : Dw (tVar i) σ d c B (intP fun k => k = n) := fun B1 H _ L Q k => ⟨_, h, k _ B1 H (.refl L) ⟨n, rfl, rfl⟩⟩
theorem intP_dat {P : Int → Prop} {v : V} (h : intP P B v) : datP K (fun x => ∃ i, P i ∧ x = .int i) B v := by
  obtain ⟨i, hi, rfl⟩ := h
  exact ⟨.int i, ⟨i, hi, rfl⟩, .int i⟩
/-- a def that draws, its arguments drawn too -/
theorem Dw.def {α : Type} {args : α → List Rel} {pre : α → Prop} {res : α → Rel} {tr : TA} (hd : σ[i]? = some (some (.ref d))) (h : Dwa tr σ d c B Rs) (f : ∀ B vs, AllR Rs B vs → ∃ a, AllR (args a) B vs ∧ pre a ∧ ∀ B v, res a B v → S B v) :
    Dw (tCall (DPf args pre res) [] E (tCons (tVar i) tr)) σ d c B S := fun B1 H s L Q k =>
  ⟨.ref d, hd, h B1 H s L _ fun vs B2 H2 e hv => by
    obtain ⟨a, ha, hp, hs⟩ := f B2 vs hv
    exact ⟨d, c, B2, a, vs, by rw [List.append_nil], e.dl, ha, hp, fun v B' H' e' hr => k v B' H' (.trans L e e') (hs _ _ hr)⟩⟩
/-- .. told what it takes -/
theorem Dw.def1 {α : Type} {args : α → List Rel} {pre : α → Prop} {res : α → Rel} {tr : TA} (a : α) (hd : σ[i]? = some (some (.ref d))) (h : Da tr σ B (args a)) (hp : pre a) : Dw (tCall (DPf args pre res) [] E (tCons (tVar i) tr)) σ d c B (res a) :=
  .def hd (.of h) fun _ _ hv => ⟨a, hv, hp, fun _ _ h => h⟩
/-- a def that draws nothing, its arguments drawn -/
theorem Dw.pf {α : Type} {args : α → List Rel} {pre : α → Prop} {res : α → Rel} {tr : TA} (h : Dwa tr σ d c B Rs) (f : ∀ B vs, AllR Rs B vs → ∃ a, AllR (args a) B vs ∧ pre a ∧ ∀ B v, res a B v → S B v) : Dw (tCall (Pf args pre res) [] E tr) σ d c B S := fun B1 H s L Q k =>
  h B1 H s L _ fun vs B2 H2 e hv => by
    obtain ⟨a, ha, hp, hs⟩ := f B2 vs hv
    show Pf args pre res (vs ++ []) H2 Q E
    rw [List.append_nil]
    exact ⟨B2, a, e.bh, ha, hp, fun v B' H' e' hr => k v B' H' (.trans L e (.of e.dl e')) (hs _ _ hr)⟩
theorem Dw.ite (h : Dtw tt σ d c B) (h1 : Dw ta σ d c B S) (h2 : Dw tb σ d c B S) : Dw (tIf tt ta tb) σ d c B S := fun B1 H s L Q k =>
  h B1 H s L _ fun b B2 H2 e => by
    cases b with
    | true => exact h1 B2 H2 (s.trans e.bb) e.dl Q fun v B3 H3 e3 => k v B3 H3 (e.trans L e3)
    | false => exact h2 B2 H2 (s.trans e.bb) e.dl Q fun v B3 H3 e3 => k v B3 H3 (e.trans L e3)
theorem Dtw.of {b : Bool} (h : Dt tt σ B b) : Dtw tt σ d c B := fun B1 H s L Q k => h B1 H s L.bh Q fun B' H' e => k b B' H' (.of L e)
/-- _law_any(deal, n) == m, and the like -/
theorem Dtw.cmp {f : Int → Int → Bool} {P P' : Int → Prop} (ha : Dw ta σ d c B (intP P)) (hb : Dw tb σ d c B (intP P')) : Dtw (tTest (tOp (rI0 fun i j => V.bl (f i j)) ta tb)) σ d c B := fun B1 H s L Q k =>
  ha B1 H s L _ fun x B2 H2 e ⟨i, _, hx⟩ => hb B2 H2 (s.trans e.bb) e.dl _ fun y B3 H3 e2 ⟨j, _, hy⟩ => ⟨i, j, hx, hy, _, rfl, k _ B3 H3 (e.trans L e2)⟩
include K in
theorem Dtw.eq {P P' : Int → Prop} (ha : Dw ta σ d c B (intP P)) (hb : Dw tb σ d c B (intP P')) : Dtw (tTest (tOp rEq ta tb)) σ d c B := fun B1 H s L Q k =>
  ha B1 H s L _ fun x B2 H2 e ⟨i, _, hx⟩ => hb B2 H2 (s.trans e.bb) e.dl _ fun y B3 H3 e2 ⟨j, _, hy⟩ => by
    subst hx
    subst hy
    exact (Rv.eqI (K := K) (i := i) (j := j)) _ _ B3 H3 (Same.refl _) e2.bh (.int i) (.int j) _ fun v B4 H4 e4 hv => ⟨_, dat_bl hv, k _ B4 H4 ((e.trans L e2).trans L (.of e2.dl e4))⟩
/-! ### statements -/
variable {D : Ends} {rest t u : TS}
theorem s_w (L : Dl B H d c) (h : Dw te σ d c B R) (k : ∀ v B' H', ExtD d c B H B' H' → R B' v → rest D (σ.set i (some v)) H') : tSeq (tAsg te (gName i)) rest D σ H := h B H (Same.refl _) L _ k
theorem s_wE (L : Dl B H d c) (h : Dw te σ d c B R) (k : ∀ v B' H', ExtD d c B H B' H' → R B' v → D.nx (σ.set i (some v)) H') : tAsg te (gName i) D σ H := h B H (Same.refl _) L _ k
theorem s_retW (L : Dl B H d c) (h : Dw te σ d c B R) (k : ∀ v B' H', ExtD d c B H B' H' → R B' v → D.rt v H') : tRet te D σ H := h B H (Same.refl _) L _ k
theorem s_ifW (L : Dl B H d c) (h : Dtw tt σ d c B) (k1 : ∀ B' H', ExtD d c B H B' H' → t { D with nx := rest D } σ H') (k2 : ∀ B' H', ExtD d c B H B' H' → u { D with nx := rest D } σ H') : tSeq (tIfS tt t u) rest D σ H := h B H (Same.refl _) L _ fun b B' H' e => by
  cases b with
  | true => exact k1 B' H' e
  | false => exact k2 B' H' e
theorem s_ifWE (L : Dl B H d c) (h : Dtw tt σ d c B) (k1 : ∀ B' H', ExtD d c B H B' H' → t D σ H') (k2 : ∀ B' H', ExtD d c B H B' H' → u D σ H') : tIfS tt t u D σ H := h B H (Same.refl _) L _ fun b B' H' e => by
  cases b with
  | true => exact k1 B' H' e
  | false => exact k2 B' H' e
/-! ### lists that change -/
theorem De.rep {n : Int} {ta : TA} {ds : List PyData} (h : Dd K ta σ B ds) (n0 : 0 ≤ n) (n1 : n ≤ 1000) (few : ds.length ≤ 1000) : De (tOp rRep (tLst ta) (tC (.int n))) σ B (dat K (.list (List.replicate n.toNat ds).flatten)) := fun B1 H s1 s2 Q k =>
  h B1 H s1 s2 _ fun vs B2 H2 e hv => by
    have len := allR_len hv
    rw [List.length_map] at len
    refine ⟨by rw [len, sizeLine_eq]; omega, fun p hp => ⟨p, n, vs, rfl, rfl, upd_same, by omega, by omega, ?_, fun p2 hp2 => ?_⟩⟩
    · rw [len, sizeLine_eq]
      have : ds.length * n.toNat ≤ 1000 * 1000 := Nat.mul_le_mul few (by omega)
      omega
    · have e1 : Ext B2 H2 B2 (upd H2 p (.lst vs)) := .own e.bh hp
      refine k _ (upd B2 p2 (.lst (List.replicate n.toNat vs).flatten)) _ ((e.trans e1).trans (Ext.new e1.bh hp2)) ?_
      have fr : B2 p2 = none := e1.bh.free hp2
      refine .lst (SqL.of upd_same) (dpMonoAll (new_same fr) _ _ ?_)
      have g : DpAll K B2 vs ds := allR_dp hv
      have go : ∀ m : Nat, DpAll K B2 (List.replicate m vs).flatten (List.replicate m ds).flatten := by
        intro m
        induction m with
        | zero => exact .nil
        | succ m ih =>
          rw [List.replicate_succ, List.replicate_succ, List.flatten_cons, List.flatten_cons]
          exact dpAll_app g ih
      exact go _
end
end Wv

set_option Elab.async false
set_option linter.all false
set_option maxRecDepth 100000
set_option maxHeartbeats 4000000
/-! Wx1: list(text), lists that change while a deal goes on. -/
namespace Wv
open PySem PySem.Spec PyProof.Rows L2 Wb
/-- the signs of a text -/
def signs (z : Str) : List Str := z.cps.toList.map fun c => ⟨#[c]⟩
def rLstS : List V → Hp → VK → Prop := fun xs H Q => ∃ z : Str, xs = [.str z] ∧ z.length ≤ sizeLine ∧ ∀ p, H p = none → Q (.ref p) (upd H p (.lst ((signs z).map .str)))
theorem signs_vals {z : Str} : ∀ {us : List Value} (n : Nat), us.length + n = z.cps.size → (∀ (j : Nat) (v : Value), us[j]? = some v → SignAt z (n + j) v) → Vals (((signs z).drop n).map V.str) us := by
  intro us
  induction us with
  | nil =>
    intro n h _
    have : (signs z).drop n = [] := by
      rw [List.drop_eq_nil_iff]
      unfold signs
      simp at *
      omega
    rw [this]
    exact .nil
  | cons u us ih =>
    intro n h g
    have lt : n < (signs z).length := by
      unfold signs
      simp at *
      omega
    rw [List.drop_eq_getElem_cons lt, List.map_cons]
    refine .cons ?_ (ih (n + 1) (by simp at h; omega) fun j v e => ?_)
    · obtain ⟨c, t, hc, hv⟩ := g 0 u rfl
      refine ⟨t, ?_⟩
      have key : (signs z)[n]? = some ⟨#[c]⟩ := by
        unfold signs
        rw [List.getElem?_map, Array.getElem?_toList]
        rw [Nat.add_zero] at hc
        rw [hc]
        rfl
      obtain ⟨_, e⟩ := List.getElem?_eq_some_iff.mp key
      rw [hv, e]
    · have := g (j + 1) v e
      rw [show n + 1 + j = n + (j + 1) by omega]
      exact this
theorem call_list_txt {X : Cx} (hc : X.calm = true) : CallR X (.type "list") rLstS := by
  intro pins s σ H xs us Q I r q
  obtain ⟨z, rfl, hz, q⟩ := q
  obtain ⟨u, rfl, rx⟩ := vals1 r
  obtain ⟨t, rfl⟩ := rx
  refine call_list_str (I.ok.hd hc) z t (fun h' tk acc c' hk hD hacc => ?_) hz
  have hv : Vals ((signs z).map V.str) acc.toList := by
    have := signs_vals (z := z) (us := acc.toList) 0 (by rw [Array.length_toList]; exact hacc.1) fun j v e => by
      rw [Nat.zero_add]
      exact hacc.2 j v (by rw [← Array.getElem?_toList]; exact e)
    rw [List.drop_zero] at this
    exact this
  refine ⟨.ref s.heap.objs.size, upd H s.heap.objs.size (.lst ((signs z).map V.str)), I.laid (t' := tk) hk (Nat.le_refl _)
    (show ObjOk X.prog X.w _ _ _ (.lst ((signs z).map V.str)) from ⟨by unfold signs; simp; exact hz, acc.toList, c', hv, by rw [Array.toArray_toList]; exact hD⟩), rfl, q _ (I.hok.fresh (Nat.le_refl _))⟩
theorem Ml.other {d c M P : Addr} {B H : Hp} {xs : List V} {o : HO} (m : Ml d c B H M xs) (n : M ≠ P) : Ml d c B (upd H P o) M xs := ⟨(upd_ne n).trans m.at_, m.no, m.nd, m.nc⟩
section
variable {K : PySem.W.Frag} {σ : L2.St} {d c M : Addr} {B H : Hp} {te tf : TE} {R S T : Rel} {E : XK} {i j : Nat} {Q : VK}
/-- a number drawn below the length of a list that changes -/
theorem c_anyLen {xs : List V} (L : Dl B H d c) (hd : σ[i]? = some (some (.ref d))) (hm : σ[j]? = some (some (.ref M))) (m : Ml d c B H M xs) (pos : 0 < xs.length) (few : xs.length ≤ 1000) (k : ∀ (r : Nat) H', r < xs.length → ExtD d c B H B H' → Q (.int r) H') :
    tCall spAny [] E (tCons (tVar i) (tCons (tCB (rLen K) (tCons (tVar j) tNil)) tNil)) σ H Q :=
  ⟨.ref d, hd, .ref M, hm, .ref M, xs.length, rfl, .inl ⟨xs, SqL.of m.at_, rfl⟩, d, c, xs.length, rfl, L.deal, by omega, by omega, fun r H2 r0 r1 D2 S2 => by
    obtain ⟨n, rfl⟩ := Int.eq_ofNat_of_zero_le r0
    exact k n H2 (by omega) (.draw L D2 S2)⟩
theorem seqIx {n r : Nat} (h : r < n) : seqIndex? (r : Int) n = some r := by
  have z : ¬ ((r : Int) < 0) := by omega
  have q : (decide (0 ≤ (r : Int)) && decide ((r : Int) < n)) = true := by simp; omega
  simp only [seqIndex?, z, if_false, q, if_true]
  rfl
/-- pool.pop(a number drawn below its length) -/
theorem c_popAny {xs : List V} (L : Dl B H d c) (hd : σ[i]? = some (some (.ref d))) (hm : σ[j]? = some (some (.ref M))) (m : Ml d c B H M xs) (pos : 0 < xs.length) (few : xs.length ≤ 1000)
    (k : ∀ (r : Nat) x H', xs[r]? = some x → ExtD d c B H B H' → Ml d c B H' M xs → Q x (upd H' M (.lst (xs.eraseIdx r)))) :
    tBM K "list" rPopAt (tVar j) (tCons (tCall spAny [] E (tCons (tVar i) (tCons (tCB (rLen K) (tCons (tVar j) tNil)) tNil))) tNil) σ H Q :=
  ⟨.ref M, hm, .inl ⟨rfl, xs, SqL.of m.at_⟩, c_anyLen (K := K) L hd hm m pos few fun r H' hr e => by
    have m' := m.ext e
    exact ⟨M, xs, r, r, xs[r], rfl, rfl, m'.at_, by omega, by omega, seqIx hr, List.getElem?_eq_getElem hr, k r xs[r] H' (List.getElem?_eq_getElem hr) e m'⟩⟩
theorem c_tupL {v : V} {out : List PyData} (L : Dl B H d c) (h : dat K (.list out) B v) (k : ∀ u B' H', ExtD d c B H B' H' → dat K (.tuple out) B' u → Q u H') : rTup K [v] H Q := by
  obtain ⟨a, xs, rfl, hs, hR⟩ := dat_lstR h
  refine ⟨a, xs, rfl, .inl ⟨L.bh.seq hs, fun p hp => ?_⟩⟩
  have e := Ext.new (o := .tup xs) L.bh hp
  exact k _ _ _ (.of L e) (tupR_dat ⟨p, xs, rfl, SqT.of upd_same, MoA.mo e.bb hR⟩)
/-- what a list is, by what its items are -/
def listOf (P : List PyData → Prop) (x : PyData) : Prop := ∃ ds, x = .list ds ∧ P ds
def tupOf (P : List PyData → Prop) (x : PyData) : Prop := ∃ ds, x = .tuple ds ∧ P ds
theorem Dw.tupleL {P : List PyData → Prop} (h : Dw te σ d c B (datP K (listOf P))) : Dw (tCB (rTup K) (tCons te tNil)) σ d c B (datP K (tupOf P)) := fun B1 H s L Q k =>
  h B1 H s L _ fun v B2 H2 e ⟨x, ⟨ds, hx, hp⟩, hv⟩ => by
    subst hx
    exact c_tupL e.dl hv fun u B3 H3 e3 hu => k u B3 H3 (e.trans L e3) ⟨_, ⟨ds, rfl, hp⟩, hu⟩
/-- each item made of one that is walked, and of draws -/
def Each {α : Type} (P : α → PyData → Prop) (as : List α) (ds : List PyData) : Prop := ds.length = as.length ∧ ∀ (i : Nat) (a : α) (x : PyData), as[i]? = some a → ds[i]? = some x → P a x
theorem Each.snoc {α : Type} {P : α → PyData → Prop} {as : List α} {ds : List PyData} {a : α} {x : PyData} {i : Nat} (h : Each P (as.take i) ds) (ha : as[i]? = some a) (hx : P a x) : Each P (as.take (i + 1)) (ds ++ [x]) := by
  have tk : as.take (i + 1) = as.take i ++ [a] := by rw [List.take_succ, ha]; rfl
  have li : (as.take i).length = i := by
    have := (List.getElem?_eq_some_iff.mp ha).1
    rw [List.length_take]
    omega
  have ld : ds.length = i := h.1.trans li
  refine ⟨by rw [tk, List.length_append, List.length_append, h.1]; rfl, fun j b y hb hy => ?_⟩
  rw [tk] at hb
  by_cases hj : j < i
  · rw [List.getElem?_append_left (by omega)] at hb hy
    exact h.2 j b y hb hy
  · have e : j = i := by
      have := (List.getElem?_eq_some_iff.mp hy).1
      simp at this
      omega
    subst e
    rw [List.getElem?_append_right (by omega), li] at hb
    rw [List.getElem?_append_right (by omega), ld] at hy
    simp at hb hy
    subst hb
    subst hy
    exact hx
theorem Dw.lc {α : Type} {as : List α} {r : α → Rel} {wi : TI} {g : TG} {vs : List Nat} (P : α → PyData → Prop) (hi : Di wi σ B (as.map r)) (few : as.length < sizeLine)
    (turn : ∀ a v Bn, a ∈ as → Same B Bn → r a Bn v → ∃ σ2, (∀ Hn (Q : L2.St → Hp → Prop), Same Bn Hn → Q σ2 Hn → g v (wipe σ vs) Hn Q) ∧ wipe σ2 vs = wipe σ vs ∧ Dw te σ2 d c Bn (datP K (P a))) :
    Dw (tLc wi g tYes te vs) σ d c B (datP K (listOf (Each P as))) := fun B1 H s L Q k =>
  c_lcD (K := K) (as := as) (r := r) L (hi.mono s) few (fun i out => Each P (as.take i) out) ⟨rfl, fun i a x h => by simp at h⟩ (fun i a v B2 H2 out ha L2' s2 hv hE Y N hY hN => by
    obtain ⟨σ2, t1, t2, t3⟩ := turn a v B2 (List.mem_of_getElem? ha) (s.trans s2) hv
    refine t1 H2 _ L2'.bh ⟨t2, ?_⟩
    show te σ2 H2 Y
    exact t3 B2 H2 (Same.refl _) L2' _ fun y B4 H4 e4 ⟨x, hx, hy⟩ => hY y B4 H4 x e4 hy (hE.snoc ha hx)) fun out v B' H' e hE hv => k v B' H' e ⟨_, ⟨out, rfl, by rw [List.take_length] at hE; exact hE⟩, hv⟩
/-- parts of lists -/
def cutA {α : Type} (xs : List α) (lo hi : Option Int) : List α := (xs.drop (HT.sIx xs.length 0 lo)).take (HT.sIx xs.length xs.length hi - HT.sIx xs.length 0 lo)
theorem cutA_map {α β : Type} (f : α → β) (xs : List α) (lo hi : Option Int) : (cutA xs lo hi).map f = cutA (xs.map f) lo hi := by
  unfold cutA
  rw [List.map_take, List.map_drop, List.length_map]
theorem cutA_mem {α : Type} {xs : List α} {lo hi : Option Int} {x : α} (h : x ∈ cutA xs lo hi) : x ∈ xs := List.mem_of_mem_drop (List.mem_of_mem_take h)
theorem cutA_len {α : Type} (xs : List α) (lo hi : Option Int) : (cutA xs lo hi).length ≤ xs.length := by
  unfold cutA
  rw [List.length_take, List.length_drop]
  omega
theorem dpAll_take {K : PySem.W.Frag} {H : Hp} : ∀ {vs : List V} {ds : List PyData} (n : Nat), DpAll K H vs ds → DpAll K H (vs.take n) (ds.take n)
  | _, _, 0, _ => .nil
  | _, _, n + 1, .nil => .nil
  | _, _, n + 1, .cons h t => .cons h (dpAll_take n t)
theorem dpAll_drop {K : PySem.W.Frag} {H : Hp} : ∀ {vs : List V} {ds : List PyData} (n : Nat), DpAll K H vs ds → DpAll K H (vs.drop n) (ds.drop n)
  | _, _, 0, h => h
  | _, _, n + 1, .nil => .nil
  | _, _, n + 1, .cons _ t => dpAll_drop n t
theorem De.slL {ds : List PyData} {tl th : TO} {lo hi : Option Int} (h : De te σ B (dat K (.list ds))) (h1 : Do tl σ B lo) (h2 : Do th σ B hi) : De (L2.tSl (rSlL K) te tl th) σ B (dat K (.list (cutA ds lo hi))) :=
  .sl h h1 h2 fun x B1 H s1 s2 hx Q q => by
    obtain ⟨a, xs, rfl, hs, hR⟩ := dat_lstR hx
    refine ⟨a, xs, rfl, s2.seq hs, fun p hp => q _ (upd B1 p (.lst (cutV xs lo hi))) _ (.new s2 hp) ?_⟩
    have g := allR_dp hR
    have len : xs.length = ds.length := dpAll_len g
    refine .lst (SqL.of upd_same) (dpMonoAll (new_same (s2.free hp)) _ _ ?_)
    unfold cutV cutA
    rw [len]
    exact dpAll_take _ (dpAll_drop _ g)
end
end Wv

set_option Elab.async false
set_option linter.all false
set_option maxRecDepth 100000
set_option maxHeartbeats 4000000
/-! Fm2: lists of texts and of lots: how they are sorted, shown, looked at. -/
namespace Fm
open PySem PySem.Spec PyProof.Rows L2 Wb Wv
theorem sortD_strs (zs : List Str) : ∃ ys : List Str, ys.Perm zs ∧ sortD (zs.map .str) = ys.map .str := by
  refine ⟨zs.mergeSort fun a b => dle (.str a) (.str b), List.mergeSort_perm _ _, ?_⟩
  unfold sortD
  rw [List.map_mergeSort (s := dle) (f := PyData.str) (fun a _ b _ => rfl)]
theorem alike_str (zs : List Str) : PySem.W.AllAlike (zs.map .str) := by
  intro d hd d' hd'
  obtain ⟨a, _, rfl⟩ := List.mem_map.mp hd
  obtain ⟨b, _, rfl⟩ := List.mem_map.mp hd'
  simp only [PySem.W.alike]
theorem sortok_str (zs : List Str) : PySem.W.SortOk (zs.map .str) := .inr fun d hd => by
  obtain ⟨a, _, rfl⟩ := List.mem_map.mp hd
  exact ⟨(fun z => nomatch z), (fun _ z => nomatch z)⟩
theorem depth_str (zs : List Str) : ∀ d ∈ zs.map PyData.str, d.depth ≤ 60 := fun d hd => by
  obtain ⟨a, _, rfl⟩ := List.mem_map.mp hd
  simp [PyData.depth]
theorem strs_vals {K : PySem.W.Frag} {B : Hp} : ∀ {zs : List Str} {xs : List V}, AllR ((zs.map PyData.str).map (dat K)) B xs → xs = zs.map V.str
  | [], _, h => h
  | z :: zs, _, h => by
    obtain ⟨v, r, rfl, h1, h2⟩ := h
    rw [dat_str h1, strs_vals h2]
    rfl
theorem strs_dpAll {K : PySem.W.Frag} {H : Hp} : ∀ zs : List Str, DpAll K H (zs.map V.str) (zs.map PyData.str)
  | [] => .nil
  | z :: zs => .cons (.str z) (strs_dpAll zs)
theorem tb_nm {n : Nat} {z : Str} (h : Nmk n z) : Tb 0 n (.str z) := tb_str (fun a ha => Nat.lt_trans (h.2 a ha) (by decide)) h.1
theorem sortD_lots (ls : List (List Str)) : ∃ ys : List (List Str), ys.Perm ls ∧ sortD (ls.map lotD) = ys.map lotD := by
  refine ⟨ls.mergeSort fun a b => dle (lotD a) (lotD b), List.mergeSort_perm _ _, ?_⟩
  unfold sortD
  rw [List.map_mergeSort (s := dle) (f := lotD) (fun a _ b _ => rfl)]
theorem subs_in {l a : List Str} (h : a ∈ subs l) : ∀ z ∈ a, z ∈ l := by
  suffices ∀ k, k ≤ l.length → ∀ a ∈ subs (l.take k), ∀ z ∈ a, z ∈ l from this l.length (Nat.le_refl _) a (by rw [List.take_length]; exact h)
  intro k
  induction k with
  | zero =>
    intro _ a ha z hz
    rw [List.take_zero] at ha
    have ha : a ∈ [[]] := ha
    rw [List.mem_singleton.mp ha] at hz
    cases hz
  | succ k ih =>
    intro hk a ha z hz
    have e : l.take (k + 1) = l.take k ++ [l[k]] := by rw [List.take_succ, List.getElem?_eq_getElem (by omega)]; rfl
    rw [e, subs_snoc] at ha
    rcases List.mem_append.mp ha with ha | ha
    · exact ih (by omega) a ha z hz
    · obtain ⟨b, hb, rfl⟩ := List.mem_map.mp ha
      rcases List.mem_append.mp hz with hz | hz
      · exact ih (by omega) b hb z hz
      · rw [List.mem_singleton.mp hz]
        exact List.getElem_mem _
theorem lay_lots : ∀ ls : List (List Str), (∀ l ∈ ls, ∀ z ∈ l, Nm z) → PyData.canLayAll0 (ls.map lotD) = true
  | [], _ => by simp [PyData.canLayAll0]
  | l :: ls, h => by
    rw [List.map_cons]
    simp only [PyData.canLayAll0, Bool.and_eq_true]
    exact ⟨by simp only [lotD, PyData.canLay0]; exact lay_strs (h l List.mem_cons_self), lay_lots ls fun a ha => h a (List.mem_cons_of_mem _ ha)⟩
theorem lay_rows : ∀ rs : List (List Int), PyData.canLayAll0 (rs.map rowD) = true
  | [] => by simp [PyData.canLayAll0]
  | l :: ls => by
    rw [List.map_cons]
    simp only [PyData.canLayAll0, Bool.and_eq_true]
    exact ⟨by simp only [rowD, PyData.canLay0]; exact lay_ints _, lay_rows ls⟩
theorem depth_rows : ∀ rs : List (List Int), PyData.depthAll (rs.map rowD) ≤ 1
  | [] => by simp [PyData.depthAll]
  | l :: ls => by
    have := depth_rows ls
    simp only [List.map_cons, PyData.depthAll, rowD, PyData.depth, depth_ints]
    omega
theorem shaped_rows (rs : List (List Int)) : SeqAt.shaped (rowsT rs) = true := by
  unfold SeqAt.shaped rowsT
  rw [Bool.and_eq_true]
  refine ⟨by simp only [PyData.canLay0]; exact lay_rows rs, decide_eq_true ?_⟩
  have := depth_rows rs
  simp only [PyData.depth]
  omega
theorem tb_lot {l : List Str} (h : ∀ z ∈ l, Nm z) (few : l.length ≤ 4) : Tb 1 84 (lotD l) := by
  refine ((TbAll.of (n := 0) (W := 20) (es := l.map .str) fun e he => ?_).tuple).more (Nat.le_refl _) ?_
  · obtain ⟨z, hz, rfl⟩ := List.mem_map.mp he
    exact tb_nm (h z hz)
  · rw [List.length_map]
    omega
theorem tb_row {r : List Int} (few : r.length ≤ 4) (h : ∀ i ∈ r, i.natAbs ≤ 100) : Tb 1 4 (rowD r) := by
  refine ((TbAll.of (n := 0) (W := 0) (es := r.map .int) fun e he => ?_).tuple).more (Nat.le_refl _) ?_
  · obtain ⟨i, hi, rfl⟩ := List.mem_map.mp he
    refine tb_int (Nat.lt_of_le_of_lt (h i hi) ?_)
    exact Nat.lt_of_lt_of_le (show 100 < 2 ^ 7 by decide) (Nat.pow_le_pow_right (by decide) (by decide))
  · rw [List.length_map]
    omega
/-- data that are texts -/
theorem strs_of {P : Str → Prop} : ∀ {ds : List PyData}, (∀ y ∈ ds, ∃ z, y = .str z ∧ P z) → ∃ zs : List Str, ds = zs.map .str ∧ ∀ z ∈ zs, P z
  | [], _ => ⟨[], rfl, fun z h => nomatch h⟩
  | d :: ds, h => by
    obtain ⟨z, rfl, hz⟩ := h d List.mem_cons_self
    obtain ⟨zs, rfl, hs⟩ := strs_of fun y hy => h y (List.mem_cons_of_mem _ hy)
    exact ⟨z :: zs, rfl, fun x hx => by
      rcases List.mem_cons.mp hx with rfl | hx
      · exact hz
      · exact hs x hx⟩
theorem each_mem {α : Type} {P : α → PyData → Prop} {as : List α} {ds : List PyData} (h : Each P as ds) : ∀ y ∈ ds, ∃ a ∈ as, P a y := fun y hy => by
  obtain ⟨i, hi, rfl⟩ := List.mem_iff_getElem.mp hy
  have ha : i < as.length := by rw [← h.1]; exact hi
  exact ⟨as[i], List.getElem_mem ha, h.2 i _ _ (List.getElem?_eq_getElem ha) (List.getElem?_eq_getElem hi)⟩
abbrev rJoin (K : PySem.W.Frag) : V → List V → Hp → VK → Prop := fun x xs H Q => ∃ a p, ∃ ys : List Str, x = .str a ∧ xs = [.ref p] ∧ (SqL K H p (ys.map V.str) ∨ SqT K H p (ys.map V.str)) ∧ (ys.map (·.length)).sum + ys.length * a.length ≤ 16777216 ∧ Q (.str (Txt.join a ys)) H
theorem pe_joinK {X : Cx} {K : PySem.W.Frag} {o e : Expr} {to te : TE} {apos pos : Pos} (hK : X.K = K) (ho : PE X o to) (he : PE X e te) (hs : starEach [e] X.env = [(false, eval e X.env)] := by rfl) (hbase : attributeBase o "join" X.env (eval o X.env) = eval o X.env := by rfl) (hline : (apos.endLine == pos.line) = true := by rfl) :
    PE X (.Call (.Attribute o "join" apos) [e] [] pos) (tM1 (rJoin K) to te) := by
  subst hK
  exact pe_join ho he hs hbase hline
section
variable {K : PySem.W.Frag} {σ : L2.St} {d c : Addr} {B : Hp} {te tf : TE} {E : XK} {i : Nat}
theorem Dw.ofTxt {z : Str} (hd : σ[i]? = some (some (.ref d))) (h : De te σ B (dat K (.str z))) (ne : 0 < z.length) (few : z.length ≤ 1000) : Dw (tCall (spOf K) [] E (tCons (tVar i) (tCons te tNil))) σ d c B (datP K fun x => ∃ a, x = .str ⟨#[a]⟩ ∧ a ∈ z.cps.toList) := fun B1 H s L Q k =>
  c_ofS L hd (h.mono s) ne few fun a B' H' ha e => k _ B' H' e ⟨_, ⟨a, rfl, ha⟩, .str _⟩
theorem De.join {sep : Str} {zs : List Str} (h1 : De te σ B (dat K (.str sep))) (h2 : De tf σ B (dat K (.list (zs.map .str)))) (hz : (zs.map (·.length)).sum + zs.length * sep.length ≤ 16777216) :
    De (tM1 (fun x xs H Q => ∃ a p, ∃ ys : List Str, x = .str a ∧ xs = [.ref p] ∧ (SqL K H p (ys.map V.str) ∨ SqT K H p (ys.map V.str)) ∧ (ys.map (·.length)).sum + ys.length * a.length ≤ 16777216 ∧ Q (.str (Txt.join a ys)) H) te tf) σ B (dat K (.str (Txt.join sep zs))) := fun B1 H s1 s2 Q q =>
  h1 B1 H s1 s2 _ fun x B2 H2 e hx => by
    have hx := dat_str hx
    subst hx
    refine ⟨⟨_, rfl⟩, h2 B2 H2 (s1.trans e.bb) e.bh _ fun y B3 H3 e3 hy => ?_⟩
    obtain ⟨p, xs, rfl, hs, hR⟩ := dat_lstR hy
    have ex := strs_vals (zs := zs) hR
    subst ex
    exact ⟨_, p, zs, rfl, rfl, .inl (e3.bh.seq hs), hz, q _ B3 H3 (e.trans e3) (.str _)⟩
end
end Fm

set_option Elab.async false
set_option linter.all false
set_option maxRecDepth 100000
set_option maxHeartbeats 4000000
/-! We0: == and != of instances by an own __eq__, whatever it answers. -/
namespace Wv
open PySem PySem.Spec PyProof.Rows L2 Wb
section
variable {P : Program} {w : World} {K : PySem.W.Frag} {mg : Str → Option Value} {base : Heap}
/-- the own == of the class at C -/
def CalE (P : Program) (w : World) (K : PySem.W.Frag) (mg : Str → Option Value) (base : Heap) (n : Nat) (C : Addr) (S : Sp) : Prop := ∃ (f : Addr) (fd : FuncData), FnOk P w K mg base CX0 n f fd ["self", "other"] S ∧ PySem.W.findIn K (.ref C) "__eq__" = some (some (.ref f)) ∧ PySem.W.isFn K (.ref f) = true ∧ Binds K fd ["self", "other"] []
/-- no own != -/
def NoNe (K : PySem.W.Frag) (C : Addr) : Prop := PySem.W.findIn K (.ref C) "__ne__" = some (some (.builtin "object.__ne__"))
def rEqI (C : Addr) (S : Sp) : R2 := fun x y H Q => ∃ a b dx dy fs gs, x = .ref a ∧ y = .ref b ∧ H a = some (.ins C dx fs) ∧ H b = some (.ins C dy gs) ∧ S [x, y] H (fun v H' => ∃ t, v = .bl t ∧ Q (.bl t) H') E0
def rNeI (C : Addr) (S : Sp) : R2 := fun x y H Q => ∃ a b dx dy fs gs, x = .ref a ∧ y = .ref b ∧ H a = some (.ins C dx fs) ∧ H b = some (.ins C dy gs) ∧ S [x, y] H (fun v H' => ∃ t, v = .bl t ∧ Q (.bl (!t)) H') E0
end
section
variable {X : Cx} {n : Nat} {C : Addr} {S : Sp}
/-- the own == runs -/
theorem eq_runs {A : Around} {pins : List (Addr × Obj)} {σ : L2.St} {H : Hp} {s : Shared} {a b f : Addr} {fd : FuncData} {G : Bool → Hp → Prop} {R : Value → Shared → Prop}
    (F : FnOk X.prog X.w X.K X.mg X.base CX0 n f fd ["self", "other"] S) (hb : Binds X.K fd ["self", "other"] []) (hr : Room n A) (hfr : A.frames = X.A.frames) (I : Inv X pins σ H s)
    (hs : S [.ref a, .ref b] H (fun v H' => ∃ t, v = .bl t ∧ G t H') E0) (k : ∀ t H' s', G t H' → Inv X pins σ H' s' → R (.bool t) s') :
    wpAny (model X.prog X.w) A (call (.ref f) [.ref a, .ref b]) R X.xe s := by
  have e0 : Env0 X.prog X.w X.K X.mg X.base A X.stack s H := by
    have e := I.env0
    exact ⟨by rw [hfr]; exact e.frames, e.mod, e.bs, e.bsz, e.funs, e.frf, e.hok, e.bare⟩
  have hl := F.len _ _ _ _ hs
  have r2 : Vals [V.ref a, V.ref b] [Value.ref a, Value.ref b] := .cons rfl (.cons rfl .nil)
  refine wpAny_call (codeAny_mono (F.run A X.stack s H ⟨[.ref a, .ref b], []⟩ [.ref a, .ref b] [.ref a, .ref b] _ E0 hr e0 (by
    have := hb s [.ref a, .ref b] I.kIn (by simpa using hl)
    simpa using this) r2 hs) fun r s' hq => ?_)
  cases r with
  | error e => exact pass0 (X := X) pins σ H s e s' I hq
  | ok fl =>
    cases fl with
    | ret w =>
      obtain ⟨z, H', I', rz, t, ez, g⟩ := I.after hq
      subst ez
      cases rz
      exact k t H' s' g I'
    | next => exact False.elim hq
    | brk => exact False.elim hq
    | cont => exact False.elim hq
theorem op_eqC (c : CalE X.prog X.w X.K X.mg X.base n C S) (hr : Room n X.A) : OpR X (compareOp .Eq) (rEqI C S) := by
  intro pins s σ H x y v u Q I rx ry hq
  obtain ⟨a, b, dx, dy, fs, gs, rfl, rfl, ha, hb', hS⟩ := hq
  obtain ⟨f, fd, F, hs, hf, hb⟩ := c
  cases rx
  cases ry
  obtain ⟨mA, J, _⟩ := ins_get I.hok ha
  obtain ⟨mB, J', _⟩ := ins_get I.hok hb'
  obtain ⟨od, J, _⟩ := J.look
  obtain ⟨od', J', _⟩ := J'.look
  obtain ⟨m, hF⟩ := I.fr
  show wpAny (model X.prog X.w) X.A (richCompare .Eq (.ref a) (.ref b)) (EP X pins σ Q) X.xe s
  refine PySem.W.cmp_K (op := .Eq) (tb := .ref C) hr.units0 hF I.ok.mod.kin J J'.type (by simp [PySem.W.notFirst]) hs hf ?_
  exact eq_runs F hb hr rfl I hS fun t H' s' g I' => ⟨.bl t, H', I', rfl, g⟩
/-- a builtin of the type object, looked up on an instance -/
theorem ifBound_B {M : Model} {A : Around} {E : Value → Shared → Prop} {s : Shared} {K : PySem.W.Frag} {x C : Addr} {ox : Obj} {od : Option Obj} {name : Str} {id : String} {args : List Value} {Q : Option Value → Shared → Prop} (Y : K.In s.heap) (I : PySem.W.InstAt s.heap x ox C od) (hs : PySem.W.findIn K (.ref C) name = some (some (.builtin id))) (hb : bindSpecial (.builtin id) (.ref x) = pure (.builtin id, [.ref x]))
    (h : wpAny M A (call (.builtin id) (.ref x :: args)) (fun v => Q (some v)) E s) : wpAny M A (callSpecialIfBound? (.ref x) name args) Q E s := by
  simp only [callSpecialIfBound?, bindSpecialIfBound?]
  refine wpAny_holding (wpAny_bind (wpAny_bind (wpAny_bind (I.type.here ((PySem.W.looks_findIn Y hs).here ?_)))))
  refine wpAny_bind (wpAny_askSetting (wpAny_ite ?_))
  have fin : wpAny M A (call (.builtin id) ([.ref x] ++ args) >>= fun v => pure (some v)) Q E s := wpAny_bind (wpAny_mono h (fun v s' h' => wpAny_pure h') fun _ _ h' => h')
  rw [hb]
  split
  · exact wpAny_bind (wpAny_pure (wpAny_pure (by exact fin)))
  · exact wpAny_tryCatch (wpAny_bind (wpAny_pure (wpAny_pure (by exact fin))))
theorem ne_bind (self : Value) : bindSpecial (.builtin "object.__ne__") self = pure (.builtin "object.__ne__", [self]) :=
  (Slot.of (T := "object") (name := "__ne__") (owner := "object") (n := "__ne__") (by rw [typeLookup_type, builtinLookup_eq_fast]; kernel_rfl) (by decide +kernel) (by decide +kernel) (by decide +kernel)
    (.inl (by decide +kernel)) (by rw [isSubtype_type]; kernel_rfl)).bind self
theorem ne_plain : plainId "object.__ne__" = true := by decide +kernel
theorem objNe_K {A : Around} {E : Value → Shared → Prop} {s : Shared} {prog : Program} {w : World} {K : PySem.W.Frag} {x C f b : Addr} {ox : Obj} {od : Option Obj} {Q : PySem.Fin → Shared → Prop} (hu : A.units < cLine) (Y : K.In s.heap) (I : PySem.W.InstAt s.heap x ox C od)
    (hs : PySem.W.findIn K (.ref C) "__eq__" = some (some (.ref f))) (hf : PySem.W.isFn K (.ref f) = true)
    (hcall : wpAny (model prog w) A (call (.ref f) [.ref x, .ref b]) (fun v s' => ∃ t, v = .bool t ∧ Q (.done (.ret (.bool (!t)))) s') E s) : wpAny (model prog w) A (Builtin.«object.__ne__» ⟨[.ref x, .ref b], []⟩) Q E s := by
  unfold Builtin.«object.__ne__»
  repeat (first
    | with_reducible refine wpAny_cRoomFor hu ?_
    | (refine wpAny_bind (m := callSpecialIfBound? (.ref x) (Str.ofString "__eq__") [.ref b])
        (PySem.W.ifBound_K Y I hs hf (wpAny_mono hcall (fun r s' hr => by
          obtain ⟨t, rfl, hq⟩ := hr
          repeat (first | exact hq | exact wpAny_pure hq | exact wpAny_truthy_bool hq | (refine wpAny_bind (m := truthy (.bool _)) (wpAny_truthy_bool ?_)) | wp_step)) fun _ _ e => e)))
    | wp_step)
/-- != by an own == alone -/
theorem cmp_KN {A : Around} {E : Value → Shared → Prop} {s : Shared} {prog : Program} {w : World} {K : PySem.W.Frag} {h₀ : Heap} {L : Addr} {m : Str → Option Value} {x C f b : Addr} {ox ob : Obj} {od od' : Option Obj} {Q : Value → Shared → Prop} (hu : A.units + 1 < cLine)
    (FR : Fr h₀ L s.heap m) (X₀ : K.In h₀) (I : PySem.W.InstAt s.heap x ox C od) (I' : PySem.W.InstAt s.heap b ob C od')
    (hn : PySem.W.findIn K (.ref C) "__ne__" = some (some (.builtin "object.__ne__"))) (ho : PySem.W.mroIn K C (.type "object") = some true)
    (hs : PySem.W.findIn K (.ref C) "__eq__" = some (some (.ref f))) (hf : PySem.W.isFn K (.ref f) = true)
    (h : wpAny (model prog w) A.in1 (call (.ref f) [.ref x, .ref b]) (fun v s' => ∃ t, v = .bool t ∧ Q (.bool (!t)) s') E s) : wpAny (model prog w) A (richCompare .NotEq (.ref x) (.ref b)) Q E s := by
  have Y := X₀.keeps FR.keep
  have sub : PySem.W.Looks (model prog w) s.heap (isInstance (.ref x) (.type "object")) true := I.type.andThen (PySem.W.looks_mroIn Y ho)
  have one : wpAny (model prog w) A (tryCompare (.ref x) "__ne__" (.ref b)) (fun r s' => ∃ v, r = some v ∧ Q v s') E s := by
    simp only [tryCompare]
    refine wpAny_bind (ifBound_B Y I hn (ne_bind _) (wpAny_call (codeAny_call_builtin ne_plain F.cmpEntry_ne (PySem.W.check_slot F.cmpKind_ne F.cmpSplit_ne sub (F.cmpArgs_ne _ _) ?_))))
    refine objNe_K (A := A.in1) hu Y I hs hf (wpAny_mono h (fun v s' hv => ?_) fun _ _ e => e)
    obtain ⟨t, rfl, hq⟩ := hv
    have hq : ∃ v, some (Value.bool !t) = some v ∧ Q v s' := ⟨_, rfl, hq⟩
    first | exact ⟨t, rfl, wpAny_pure hq⟩ | exact ⟨t, rfl, wpAny_pure (wpAny_pure hq)⟩ | exact ⟨t, rfl, hq⟩
  unfold richCompare
  simp only [oneThing_ref]
  refine wpAny_holding (wpAny_bind (wpAny_cRoomFor (Nat.lt_of_succ_lt hu) ?_))
  rw [cmpInfo_NotEq]
  dsimp only
  refine wpAny_bind (I.type.here (wpAny_bind (I'.type.here ?_)))
  rw [show (Value.ref C != Value.ref C) = false from by simp]
  simp only [Bool.false_eq_true, if_false]
  refine wpAny_bind (wpAny_pure ?_)
  simp only [Bool.false_eq_true, if_false]
  refine wpAny_bind (wpAny_mono one (fun r s' z => ?_) fun _ _ e => e)
  obtain ⟨v, rfl, hq⟩ := z
  exact wpAny_pure hq
theorem mro_obj {K : PySem.W.Frag} {C : Addr} (c : Cls K C) : PySem.W.mroIn K C (.type "object") = some true := by
  obtain ⟨cd, hc, ho⟩ := PySem.W.any_some c.po
  have ne : cd.mro.isEmpty = false := by
    cases q : cd.mro with
    | nil => rw [q] at ho; cases ho
    | cons _ _ => rfl
  unfold PySem.W.mroIn
  rw [hc, Option.bind_some, if_neg (by rw [ne]; decide), PySem.W.only_has ho]
theorem op_neC (c : CalE X.prog X.w X.K X.mg X.base n C S) (cl : Cls X.K C) (ne : NoNe X.K C) (hr : Room (n + 1) X.A) : OpR X (compareOp .NotEq) (rNeI C S) := by
  intro pins s σ H x y v u Q I rx ry hq
  obtain ⟨a, b, dx, dy, fs, gs, rfl, rfl, ha, hb', hS⟩ := hq
  obtain ⟨f, fd, F, hs, hf, hb⟩ := c
  cases rx
  cases ry
  obtain ⟨mA, J, _⟩ := ins_get I.hok ha
  obtain ⟨mB, J', _⟩ := ins_get I.hok hb'
  obtain ⟨od, J, _⟩ := J.look
  obtain ⟨od', J', _⟩ := J'.look
  obtain ⟨m, hF⟩ := I.fr
  show wpAny (model X.prog X.w) X.A (richCompare .NotEq (.ref a) (.ref b)) (EP X pins σ Q) X.xe s
  refine cmp_KN hr.in1.units0 hF I.ok.mod.kin J J' ne (mro_obj cl) hs hf ?_
  exact eq_runs (A := X.A.in1) F hb hr.in1 rfl I hS fun t H' s' g I' => ⟨t, rfl, .bl (!t), H', I', rfl, g⟩
end
section
variable {C : Addr} {B : Hp} {R R' : Rel} {α : Type} {args : α → List Rel} {pre : α → Prop} {res : α → Rel} {K : PySem.W.Frag}
/-- what is an instance of the class at C -/
class IsIns (C : Addr) (R : Rel) : Prop where
  ins : ∀ {B v}, R B v → ∃ a dx fs, v = .ref a ∧ B a = some (.ins C dx fs)
theorem Rv.eqIns [i : IsIns C R] [j : IsIns C R'] {t : Bool} (a : α) (hp : pre a) (ha : ∀ B x y, R B x → R' B y → AllR (args a) B [x, y]) (hr : res a = dat K (.bool t)) : Rv (rEqI C (Pf args pre res)) B R R' (dat K (.bool t)) := fun x y B1 H s1 s2 hx hy Q q => by
  obtain ⟨b, dx, fs, rfl, hb⟩ := i.ins hx
  obtain ⟨c, dy, gs, rfl, hc⟩ := j.ins hy
  refine ⟨b, c, dx, dy, fs, gs, rfl, rfl, s2 _ _ hb, s2 _ _ hc, B1, a, s2, ha _ _ _ hx hy, hp, fun v B' H' e hv => ?_⟩
  rw [hr] at hv
  have : v = .bl t := dat_bl hv
  exact ⟨t, this, q _ B' H' e (this ▸ hv)⟩
theorem Rv.neIns [i : IsIns C R] [j : IsIns C R'] {t : Bool} (a : α) (hp : pre a) (ha : ∀ B x y, R B x → R' B y → AllR (args a) B [x, y]) (hr : res a = dat K (.bool t)) : Rv (rNeI C (Pf args pre res)) B R R' (dat K (.bool (!t))) := fun x y B1 H s1 s2 hx hy Q q => by
  obtain ⟨b, dx, fs, rfl, hb⟩ := i.ins hx
  obtain ⟨c, dy, gs, rfl, hc⟩ := j.ins hy
  refine ⟨b, c, dx, dy, fs, gs, rfl, rfl, s2 _ _ hb, s2 _ _ hc, B1, a, s2, ha _ _ _ hx hy, hp, fun v B' H' e hv => ?_⟩
  rw [hr] at hv
  have : v = .bl t := dat_bl hv
  exact ⟨t, this, q _ B' H' e (.bl _)⟩
instance {C : Addr} {fs : List (Str × Rel)} : IsIns C (insR C fs) := ⟨fun ⟨a, dx, us, e, h, _⟩ => ⟨a, dx, us, e, h⟩⟩
end
end Wv

set_option Elab.async false
set_option linter.all false
set_option maxRecDepth 100000
set_option maxHeartbeats 4000000
/-! Wz0: sorted(d), d a dict whose keys are tuples of ints and texts. -/
namespace PySem.W
open PySem PySem.Calls PyProof.Rows PySem.SeqAt
section
variable {prog : Program} {w : World} {A : Around} {E : Value → Shared → Prop} {s : Shared}
theorem sorted_src {T : String} {r d : Addr} {n : Nat} {P : Nat → Value → Prop} {OK : Heap → Prop} (K : KdlSrc prog w T r d n P OK) (hh : A.handled = none) (hok : OK s.heap) (hn : n ≤ sizeLine) {Q : Value → Shared → Prop}
    (hQ : ∀ (h' : Heap) (tk : Nat) (acc : Array Value), (∀ b o, s.heap.get? b = some o → h'.get? b = some o) → ItemsOf P acc n → ∃ ds : List PyData,
      SortsAt prog w A.in1.in1 { s with heap := sortingHeap (h'.push (seqObj "list" acc.toList.toArray 0)) h'.objs.size acc.toList, toks := tk } (dataKind (sortingHeap (h'.push (seqObj "list" acc.toList.toArray 0)) h'.objs.size acc.toList) ds) acc.toList ∧
      Q (.ref h'.objs.size) { s with heap := sortedHeap (h'.push (seqObj "list" acc.toList.toArray 0)) h'.objs.size acc.toList (sortVals (dataKind (sortingHeap (h'.push (seqObj "list" acc.toList.toArray 0)) h'.objs.size acc.toList) ds) false acc.toList acc.toList).toArray, toks := tk }) :
    wpAny (model prog w) A (call (.builtin "sorted") [.ref r]) Q E s := by
  refine Calls.call_function_entry kind_sorted plain_sorted entry_sorted (args_sorted1 _) ?_
  unfold Builtin.«sorted»
  refine wpAny_bind (m := checkCount "sorted" 1 1 _) (wpAny_pure ?_)
  refine wpAny_bind (kdu_collect (A := A.in1) K hh hok hn fun h' tk acc hk hacc => ?_)
  obtain ⟨ds, S, q⟩ := hQ h' tk acc hk hacc
  have hl : acc.toList.length = n := by rw [Array.length_toList, hacc.1]
  refine wpAny_bind (wpAny_newList ?_ (by rw [hl]; exact hn))
  have hoL : (h'.push (seqObj "list" acc.toList.toArray 0)).get? h'.objs.size = some (seqObj "list" acc.toList.toArray 0) := Heap.get?_push_size _ rfl
  show wpAny _ _ _ _ _ { s with heap := h'.push (seqObj "list" acc.toList.toArray 0), toks := tk }
  refine wpAny_bind (wpAny_holding (wpAny_call_entry slot_list_sort ⟨_, hoL, rfl⟩ entry_list_sort ?body (args_list_sort _)))
  case body =>
    show wpAny (model prog w) A.in1.in1 (Builtin.«list.sort» ⟨[.ref h'.objs.size], []⟩) _ _ _
    exact list_sort_vals (s := { s with heap := h'.push (seqObj "list" acc.toList.toArray 0), toks := tk }) hoL S (by rw [hl]; exact hn) ⟨_, rfl, wpAny_pure ⟨_, rfl, q⟩⟩
end
end PySem.W
namespace Wb
open PySem PySem.Spec PyProof.Rows L2
def keyD1 : Key → PyData
  | .inl i => .int i
  | .inr z => .str z
def keyDt (ks : List Key) : PyData := .tuple (ks.map keyD1)
def rSortedDT (K : PySem.W.Frag) : List V → Hp → VK → Prop := fun vs H Q => ∃ (d : Addr) (kvs : List (List Key × V)), vs = [.ref d] ∧ Rd H d (.dT kvs) ∧ PySem.W.AllAlike (kvs.map fun kv => keyDt kv.1) ∧
  ∀ p bs, H p = none → IsKeys H kvs bs → DpAll K H (bs.map V.ref) (kvs.map fun kv => keyDt kv.1) → Q (.ref p) (upd H p (.lst (sortV (bs.map V.ref) (kvs.map fun kv => keyDt kv.1))))
theorem dp_key {K : PySem.W.Frag} {H : Hp} : ∀ ks : List Key, DpAll K H (ks.map kV) (ks.map keyD1)
  | [] => .nil
  | .inl i :: ks => .cons (.int i) (dp_key ks)
  | .inr z :: ks => .cons (.str z) (dp_key ks)
theorem dp_keys {K : PySem.W.Frag} {H : Hp} {kvs : List (List Key × V)} {bs : List Addr} (h : IsKeys H kvs bs) : DpAll K H (bs.map V.ref) (kvs.map fun kv => keyDt kv.1) := by
  unfold IsKeys at h
  induction h with
  | nil => exact .nil
  | cons h t ih => exact .cons (.tup (SqT.of h) (dp_key _)) ih
theorem depth_key (ks : List Key) : (keyDt ks).depth ≤ 2 := by
  have h : ∀ ks : List Key, PyData.depthAll (ks.map keyD1) ≤ 1 := fun ks => by
    induction ks with
    | nil => exact Nat.zero_le _
    | cons k ks ih =>
      rw [List.map_cons]
      show max (keyD1 k).depth (PyData.depthAll (ks.map keyD1)) ≤ 1
      cases k with
      | inl i => exact Nat.max_le.mpr ⟨by simp [keyD1, PyData.depth], ih⟩
      | inr z => exact Nat.max_le.mpr ⟨by simp [keyD1, PyData.depth], ih⟩
  have := h ks
  unfold keyDt
  simp only [PyData.depth]
  omega
section
variable {X : Cx}
theorem cr_sortedDT (hc : X.calm = true) (hu : X.A.units + 64 < cLine) : CallR X (.builtin "sorted") (rSortedDT X.K) := by
  intro pins s σ H xs us Q I r h
  obtain ⟨d, kvs, rfl, hd, hal, q⟩ := h
  obtain ⟨u, rfl, rx⟩ := r.one
  cases rx
  obtain ⟨z, hs, ks, pr, o, es, ep, ho, hx, hdt, he, hn⟩ := (show ObjOk X.prog X.w H s.heap d (.dT kvs) from hd.ok I.hok)
  have l1 : es.size = ks.length := size_of_entries he
  have l2 : kvs.length = ks.length := Paired.length pr
  refine PySem.W.sorted_src (kdl_raw hs hx hdt) (I.ok.hd hc) ho (by omega) fun h' tk acc kp it => ?_
  have ea : acc.toList = ks.map fun x => Value.ref x.2.1 := by
    have hl : acc.toList.length = ks.length := by rw [Array.length_toList, it.1]; exact l1
    apply List.ext_getElem?
    intro j
    rw [List.getElem?_map]
    cases hj : acc.toList[j]? with
    | none =>
      have h1 := List.getElem?_eq_none_iff.mp hj
      rw [List.getElem?_eq_none (by omega)]
      all_goals rfl
    | some v =>
      obtain ⟨en, hen, hv⟩ := it.2 j v (by rw [← Array.getElem?_toList]; exact hj)
      have qe := entry_at he j
      rw [hen] at qe
      cases hb : ks[j]? with
      | none =>
        rw [hb] at qe
        exact nomatch (show some en = none from qe)
      | some b =>
        rw [hb] at qe
        have e2 : en = entryOfKey (tupleKind (mixKind X.prog X.w)) b := Option.some.inj qe
        rw [hv, e2]
        all_goals rfl
  have eb : acc.toList = (ks.map fun x => x.2.1).map Value.ref := by rw [ea, List.map_map]; all_goals rfl
  have rv : Vals ((ks.map fun x => x.2.1).map V.ref) acc.toList := by rw [eb]; exact vals_refs _
  have ik : IsKeys H kvs (ks.map fun x => x.2.1) := isKeys_of pr
  generalize ks.map (fun x => x.2.1) = bs at eb rv ik
  have hdp : DpAll X.K H (bs.map V.ref) (kvs.map fun kv => keyDt kv.1) := dp_keys ik
  have len := dpAll_len hdp
  have em : ((bs.map V.ref).zip (kvs.map fun kv => keyDt kv.1)).map Prod.snd = kvs.map fun kv => keyDt kv.1 := zip_snd len
  have I1 : Inv X pins σ H { s with heap := h', toks := tk } := I.kept kp
  have e := each_pairs I1 rv hdp
  have hoL : (h'.push (seqObj "list" acc.toList.toArray 0)).get? h'.objs.size = some (seqObj "list" acc.toList.toArray 0) := Heap.get?_push_size _ rfl
  have old : ∀ b u, h'.get? b = some u → (PySem.W.sortingHeap (h'.push (seqObj "list" acc.toList.toArray 0)) h'.objs.size acc.toList).get? b = some u := fun b u hb =>
    PySem.W.sortingHeap_old (Nat.ne_of_lt (Heap.lt_size hb)) (Heap.get?_push_of_some _ hb)
  have er : PySem.W.EachIs (fun (v : Value) (b : V × PyData) => ∃ as, Reads (PySem.W.sortingHeap (h'.push (seqObj "list" acc.toList.toArray 0)) h'.objs.size acc.toList) v b.2 as) acc.toList ((bs.map V.ref).zip (kvs.map fun kv => keyDt kv.1)) :=
    e.mono fun v b h => by
      obtain ⟨as, rr⟩ := Dp.reads I1 b.2 b.1 v h.2 h.1
      exact ⟨as, PyProof.Rows.Reads.keeps old rr⟩
  refine ⟨((bs.map V.ref).zip (kvs.map fun kv => keyDt kv.1)).map Prod.snd, PySem.W.SortsAt.ok (PySem.W.each_map (R := fun v d => ∃ as, Reads (PySem.W.sortingHeap (h'.push (seqObj "list" acc.toList.toArray 0)) h'.objs.size acc.toList) v d as) Prod.snd er) (by rw [em]; exact hal) (.inl ?_) (PySem.W.bound_map ?_), ?_⟩
  · intro d hd
    rw [em] at hd
    obtain ⟨kv, _, rfl⟩ := List.mem_map.mp hd
    exact ⟨_, rfl⟩
  · intro b hb
    have hb := (List.of_mem_zip hb).2
    obtain ⟨kv, _, e⟩ := List.mem_map.mp hb
    have := depth_key kv.1
    rw [← e]
    show X.A.units + 1 + 1 + (keyDt kv.1).depth < cLine
    omega
  · have eo := PySem.W.sortVals_data false e er (by rw [em]; exact hal)
    obtain ⟨o1, o2⟩ := pairs_out eo
    obtain ⟨c, hcc⟩ := PyProof.Rows.sortedHeap_at (vs := acc.toList) (out := (PySem.W.sortVals (PySem.W.dataKind (PySem.W.sortingHeap (h'.push (seqObj "list" acc.toList.toArray 0)) h'.objs.size acc.toList) (((bs.map V.ref).zip (kvs.map fun kv => keyDt kv.1)).map Prod.snd)) false acc.toList acc.toList).toArray) hoL
    have ln : (sortV (bs.map V.ref) (kvs.map fun kv : List Key × V => keyDt kv.1)).length ≤ sizeLine := by
      unfold sortV
      rw [List.length_map, List.length_mergeSort, List.length_zip, len, Nat.min_self, List.length_map]
      omega
    have o1 : Vals (sortV (bs.map V.ref) (kvs.map fun kv : List Key × V => keyDt kv.1)) _ := o1
    refine ⟨.ref h'.objs.size, upd H h'.objs.size (.lst (sortV (bs.map V.ref) (kvs.map fun kv : List Key × V => keyDt kv.1))), I1.laid (t' := tk) (fun b u e => ?_) (Nat.le_refl _) ⟨ln, _, c, o1, hcc⟩, rfl, q _ bs (I1.hok.fresh (Nat.le_refl _)) ik hdp⟩
    have hlt := Heap.lt_size e
    rw [PyProof.Rows.sortedHeap_old (Nat.ne_of_lt hlt) (by rw [size_push']; exact Nat.lt_succ_of_lt hlt)]
    exact Heap.get?_push_of_some _ e
end
end Wb

set_option Elab.async false
set_option linter.all false
set_option maxRecDepth 100000
set_option maxHeartbeats 4000000
/-! Wz1: dicts whose keys are tuples of ints and texts, written ones and built ones alike. -/
namespace Wb
open PySem PySem.Spec PyProof.Rows L2
abbrev FK (P : Program) (w : World) : HeapKind P w (List Key) := tupleKind (mixKind P w)
/-- an entry: its key, where the key stands, its value -/
abbrev En := List Key × Addr × V
def UV : List En → List (List Key × Addr × Value) → Prop := Paired fun p q => p.1 = q.1 ∧ p.2.1 = q.2.1 ∧ RelV p.2.2 q.2.2
def DicH (P : Program) (w : World) (a : Addr) (kvs : List En) (h : Heap) : Prop := kvs.length ≤ sizeLine ∧ (a == sysModules) = false ∧ ∃ us, UV kvs us ∧ ∃ o es ep, h.get? a = some o ∧ o.ExactDict ∧ o.data = .dict es ep ∧ es.toList = us.map (entryOfKey (FK P w)) ∧ (us.map (·.1)).Nodup
/-- the dict at a -/
def DicO (P : Program) (w : World) (a : Addr) (kvs : List En) : HO := .ext (DicH P w a kvs)
def KeyAt (K : PySem.W.Frag) (H : Hp) (k : List Key) (b : Addr) : Prop := SqT K H b (k.map kV)
def KeysAt (K : PySem.W.Frag) (H : Hp) (kvs : List En) : Prop := ∀ p ∈ kvs, KeyAt K H p.1 p.2.1
def atH (kvs : List En) (k : List Key) : Option V := (kvs.find? fun p => decide (p.1 = k)).map (·.2.2)
def putH (kvs : List En) (k : List Key) (b : Addr) (v : V) : List En := if (atH kvs k).isSome = true then kvs.map (fun p => if p.1 = k then (p.1, p.2.1, v) else p) else kvs ++ [(k, b, v)]
theorem dic_new {P : Program} {w : World} {H : Hp} {h : Heap} {a : Addr} {kvs : List En} (R : DicH P w a kvs h) : ObjOk P w H h a (DicO P w a kvs) := by
  have ⟨_, _, _, _, o, _, _, ho, _⟩ := R
  refine ⟨R, ⟨o, ho⟩, fun h1 h2 p k => ?_⟩
  obtain ⟨z, y, us, r, o, es, ep, ho, c⟩ := p
  exact ⟨z, y, us, r, o, es, ep, k o ho, c⟩
theorem UV.at_ {kvs : List En} {us : List (List Key × Addr × Value)} (r : UV kvs us) (k : List Key) : RelO (atH kvs k) ((atKey us k).map (·.2)) := by
  unfold UV at r
  induction r with
  | nil => exact True.intro
  | @cons p q ps qs h t ih =>
    obtain ⟨h1, _, h2⟩ := h
    by_cases e : p.1 = k
    · have e' : q.1 = k := h1.symm.trans e
      have b : atKey (q :: qs) k = some q.2 := by simp [atKey, List.find?_cons, e']
      have c : atH (p :: ps) k = some p.2.2 := by simp [atH, List.find?_cons, e]
      rw [c, b]
      exact h2
    · have e' : ¬ q.1 = k := fun z => e (h1.trans z)
      have b : atKey (q :: qs) k = atKey qs k := by simp [atKey, List.find?_cons, e']
      have c : atH (p :: ps) k = atH ps k := by simp [atH, List.find?_cons, e]
      rw [c, b]
      exact ih
theorem UV.repl {kvs : List En} {us : List (List Key × Addr × Value)} (r : UV kvs us) (k : List Key) {y : V} {u : Value} (ry : RelV y u) :
    UV (kvs.map fun p => if p.1 = k then (p.1, p.2.1, y) else p) (us.map (putAt k u)) := by
  unfold UV at *
  induction r with
  | nil => exact .nil
  | @cons p q ps qs h t ih =>
    rw [List.map_cons, List.map_cons]
    refine .cons ?_ ih
    obtain ⟨h1, h2, h3⟩ := h
    unfold putAt
    by_cases e : p.1 = k
    · rw [if_pos e, if_pos (h1.symm.trans e)]
      exact ⟨h1, h2, ry⟩
    · rw [if_neg e, if_neg (fun z => e (h1.trans z))]
      exact ⟨h1, h2, h3⟩
theorem UV.put {kvs : List En} {us : List (List Key × Addr × Value)} (r : UV kvs us) (k : List Key) {b : Addr} {y : V} {u : Value} (ry : RelV y u) : UV (putH kvs k b y) (storedH us k b u) := by
  have e : (atH kvs k).isSome = (atKey us k).isSome := by rw [(r.at_ k).isSome_eq, Option.isSome_map]
  unfold putH storedH
  rw [e]
  by_cases q : (atKey us k).isSome = true
  · rw [if_pos q, if_pos q]
    exact r.repl k ry
  · rw [if_neg q, if_neg q]
    exact Paired.snoc r ⟨rfl, rfl, ry⟩
theorem len_putH (kvs : List En) (k : List Key) (b : Addr) (v : V) : (putH kvs k b v).length ≤ kvs.length + 1 := by
  unfold putH
  split
  · rw [List.length_map]
    omega
  · simp
theorem KeyAt.same {K : PySem.W.Frag} {H H' : Hp} {k : List Key} {b : Addr} (h : KeyAt K H k b) (s : ∀ a o, H a = some o → H' a = some o) : KeyAt K H' k b := seqT s h
section
variable {X : Cx} {pins : List (Addr × Obj)} {σ : L2.St} {H : Hp} {s : Shared} {a b : Addr} {kvs : List En} {k : List Key} {A : Around} {E : Value → Shared → Prop}
theorem key_is (I : Inv X pins σ H s) (h : KeyAt X.K H k b) : (FK X.prog X.w).is s.heap k b := by
  obtain ⟨its, rv, hT, _⟩ := I.tuple h
  obtain ⟨o, h1, h2, n, h3⟩ := hT
  exact ⟨o, its.toArray, n, h1, h2, h3, by simpa using items_are rv⟩
theorem dic_of (I : Inv X pins σ H s) (ha : H a = some (DicO X.prog X.w a kvs)) (hk : KeysAt X.K H kvs) : kvs.length ≤ sizeLine ∧ (a == sysModules) = false ∧ ∃ us, UV kvs us ∧ s.heap.DictOfH (FK X.prog X.w) a us := by
  obtain ⟨z, y, us, r, o, es, ep, h1, h2, h3, h4, h5⟩ := (I.hok a _ ha).1
  refine ⟨z, y, us, r, o, es, ep, h1, h2, h3, h4, fun x hx => ?_, h5⟩
  have all : ∀ {l : List En} {m : List (List Key × Addr × Value)}, UV l m → (∀ p ∈ l, KeyAt X.K H p.1 p.2.1) → ∀ x ∈ m, (FK X.prog X.w).is s.heap x.1 x.2.1 := by
    intro l m q hl
    unfold UV at q
    induction q with
    | nil => intro x hx; exact nomatch hx
    | @cons p q ps qs hq t ih =>
      intro x hx
      rcases List.mem_cons.mp hx with e | hx
      · subst e
        rw [← hq.1, ← hq.2.1]
        exact key_is I (hl p List.mem_cons_self)
      · exact ih (fun p hp => hl p (List.mem_cons_of_mem _ hp)) x hx
  exact all r hk x hx
/-- d[y] = v -/
theorem h_setItem {v : V} {r : Value} {Q : Unit → Shared → Prop} (hu : A.units + 1 < cLine) (I : Inv X pins σ H s) (ha : H a = some (DicO X.prog X.w a kvs)) (hk : KeysAt X.K H kvs) (hb : KeyAt X.K H k b) (few : kvs.length < sizeLine) (rv : RelV v r)
    (h : ∀ s', Inv X pins σ (upd H a (DicO X.prog X.w a (putH kvs k b v))) s' → Q () s') : wpAny (model X.prog X.w) A (setItem (.ref a) (.ref b) r) Q E s := by
  obtain ⟨z, hd, us, rel, dd⟩ := dic_of I ha hk
  have hz : us.length ≤ sizeLine := by rw [← Paired.length rel]; exact z
  have hl : (putH kvs k b v).length ≤ sizeLine := by have := len_putH kvs k b v; omega
  refine wpAny_setItem_heap (hsz := hz) (tupleKind_room_in1 hu) (key_is I hb) dd fun h' dd' hs => h _ ?_
  obtain ⟨q, es, ep, hq, h2, h3, h4, _, h5⟩ := dd'
  exact d_write I (by rw [ha]; exact True.intro) hs ⟨q, hq⟩ (dic_new ⟨hl, hd, _, rel.put k rv, q, es, ep, hq, h2, h3, h4, h5⟩)
theorem h_getItem {v : V} {Q : Value → Shared → Prop} (hu : A.units + 1 < cLine) (I : Inv X pins σ H s) (ha : H a = some (DicO X.prog X.w a kvs)) (hk : KeysAt X.K H kvs) (hb : KeyAt X.K H k b) (l : atH kvs k = some v)
    (h : ∀ w' s', Inv X pins σ H s' → RelV v w' → Q w' s') : wpAny (model X.prog X.w) A (getItem (.ref a) (.ref b)) Q E s := by
  obtain ⟨z, hd, us, rel, dd⟩ := dic_of I ha hk
  obtain ⟨w', hw, rw'⟩ := RelO.some_of (v := v) (o := (atKey us k).map (·.2)) (by rw [← l]; exact rel.at_ k)
  obtain ⟨p, hp, hp2⟩ := Option.map_eq_some_iff.mp hw
  refine wpAny_getItem_heap (tupleKind_room_in1 hu) (key_is I hb) dd hp ?_
  rw [hp2]
  exact h w' _ (I.tok _) rw'
theorem h_in {Q : Value → Shared → Prop} (hu : A.units + 1 < cLine) (I : Inv X pins σ H s) (ha : H a = some (DicO X.prog X.w a kvs)) (hk : KeysAt X.K H kvs) (hb : KeyAt X.K H k b) (h : ∀ s', Inv X pins σ H s' → Q (.bool (atH kvs k).isSome) s') :
    wpAny (model X.prog X.w) A (compareOp .In (.ref b) (.ref a)) Q E s := by
  obtain ⟨z, hd, us, rel, dd⟩ := dic_of I ha hk
  refine wpAny_in_heap (tupleKind_room_in1 hu) (key_is I hb) hd dd ?_
  have q := (rel.at_ k).isSome_eq
  rw [Option.isSome_map] at q
  rw [← q]
  exact h _ (I.tok _)
theorem h_notIn {Q : Value → Shared → Prop} (hu : A.units + 1 < cLine) (I : Inv X pins σ H s) (ha : H a = some (DicO X.prog X.w a kvs)) (hk : KeysAt X.K H kvs) (hb : KeyAt X.K H k b) (h : ∀ s', Inv X pins σ H s' → Q (.bool (!(atH kvs k).isSome)) s') :
    wpAny (model X.prog X.w) A (compareOp .NotIn (.ref b) (.ref a)) Q E s := by
  obtain ⟨z, hd, us, rel, dd⟩ := dic_of I ha hk
  refine wpAny_notIn_heap (tupleKind_room_in1 hu) (key_is I hb) hd dd ?_
  have q := (rel.at_ k).isSome_eq
  rw [Option.isSome_map] at q
  rw [← q]
  exact h _ (I.tok _)
end
/-! ### as rules -/
/-- {} -/
def tHNew (P : Program) (w : World) : TE := fun _ H Q => ∀ p, H p = none → Q (.ref p) (upd H p (DicO P w p []))
/-- d[y] = v -/
def sHPut (K : PySem.W.Frag) (P : Program) (w : World) (td ty tv : TE) : TS := fun D σ H => tv σ H fun v H1 => td σ H1 fun x H2 => ty σ H2 fun y H3 => ∃ a b kvs k, x = .ref a ∧ y = .ref b ∧ H3 a = some (DicO P w a kvs) ∧ KeysAt K H3 kvs ∧ KeyAt K H3 k b ∧ kvs.length < sizeLine ∧ D.nx σ (upd H3 a (DicO P w a (putH kvs k b v)))
/-- y in d, y not in d -/
def rHIn (K : PySem.W.Frag) (P : Program) (w : World) (neg : Bool) : R2 := fun y x H Q => ∃ a b kvs k, x = .ref a ∧ y = .ref b ∧ H a = some (DicO P w a kvs) ∧ KeysAt K H kvs ∧ KeyAt K H k b ∧ Q (.bl (if neg = true then !(atH kvs k).isSome else (atH kvs k).isSome)) H
section
variable {X : Cx} {o i e value : Expr} {pos pos' : Pos} {td ty tv : TE}
theorem pe_hnew : PE X (.Dict [] [] pos) (tHNew X.prog X.w) := ⟨fun pins s σ H Q I h =>
  wpAny_Dict_empty ⟨.ref s.heap.objs.size, _, I.laid (a := s.heap.objs.size) (o := DicO X.prog X.w s.heap.objs.size []) (t' := s.toks) (fun _ _ q => Heap.get?_push_of_some _ q) (Nat.le_refl _)
    (dic_new ⟨Nat.zero_le _, beq_eq_false_iff_ne.mpr (Ne.symm (Nat.ne_of_lt I.big)), [], .nil, _, #[], 0, Heap.get?_push_size _ rfl, ⟨rfl, rfl, rfl⟩, rfl, rfl, List.nodup_nil⟩), rfl, h _ (I.hok.fresh (Nat.le_refl _))⟩⟩
theorem ps_hput (hu : X.A.units + 1 < cLine) (ho : PE X o td) (hi : PE X i ty) (hv : PE X value tv) (hs : swapsWith value (some (.Subscript o i pos')) pos.line X.env = pure false) :
    PS X (.Assign [.Subscript o i pos'] value pos) (sHPut X.K X.prog X.w td ty tv) := by
  refine ⟨fun pins s σ H D I h => ?_⟩
  refine wpAny_Assign_Subscript (thn (hv.run pins s σ H _ I h) fun r s1 ⟨v, H1, I1, rv, q1⟩ => thn (ho.run pins s1 σ H1 _ I1 q1) fun u s2 ⟨x, H2, I2, rx, q2⟩ => thn (hi.run pins s2 σ H2 _ I2 q2) fun iv s3 ⟨y, H3, I3, ry, a, b, kvs, k, ex, ey, ha, hk, hb, few, q3⟩ => ?_) hs
  subst ex ey
  obtain rfl : u = Value.ref a := rx
  obtain rfl : iv = Value.ref b := ry
  exact h_setItem hu I3 ha hk hb few rv fun s4 I4 => ⟨σ, _, I4, q3⟩
theorem op_hin (hu : X.A.units + 1 < cLine) : OpR X (compareOp .In) (rHIn X.K X.prog X.w false) := by
  intro pins s σ H x y v u Q I rx ry h
  obtain ⟨a, b, kvs, k, rfl, rfl, ha, hk, hb, q⟩ := h
  cases rx
  cases ry
  exact h_in hu I ha hk hb fun s' I' => ⟨.bl (atH kvs k).isSome, H, I', rfl, q⟩
theorem op_hnotIn (hu : X.A.units + 1 < cLine) : OpR X (compareOp .NotIn) (rHIn X.K X.prog X.w true) := by
  intro pins s σ H x y v u Q I rx ry h
  obtain ⟨a, b, kvs, k, rfl, rfl, ha, hk, hb, q⟩ := h
  cases rx
  cases ry
  exact h_notIn hu I ha hk hb fun s' I' => ⟨.bl (!(atH kvs k).isSome), H, I', rfl, q⟩
end
/-! ### sorted -/
def rSortedH (K : PySem.W.Frag) (P : Program) (w : World) : List V → Hp → VK → Prop := fun vs H Q => ∃ (d : Addr) (kvs : List En), vs = [.ref d] ∧ H d = some (DicO P w d kvs) ∧ KeysAt K H kvs ∧ PySem.W.AllAlike (kvs.map fun kv => keyDt kv.1) ∧
  ∀ p, H p = none → Q (.ref p) (upd H p (.lst (sortV (kvs.map fun e => V.ref e.2.1) (kvs.map fun kv => keyDt kv.1))))
theorem uv_addrs {kvs : List En} {us : List (List Key × Addr × Value)} (r : UV kvs us) : us.map (fun x => x.2.1) = kvs.map fun e => e.2.1 := by
  unfold UV at r
  induction r with
  | nil => rfl
  | cons h t ih => rw [List.map_cons, List.map_cons, ih, h.2.1]
theorem dp_ens {K : PySem.W.Frag} {H : Hp} : ∀ {kvs : List En}, KeysAt K H kvs → DpAll K H (kvs.map fun e => V.ref e.2.1) (kvs.map fun kv => keyDt kv.1)
  | [], _ => .nil
  | p :: kvs, h => .cons (.tup (h p List.mem_cons_self) (dp_key _)) (dp_ens fun q hq => h q (List.mem_cons_of_mem _ hq))
section
variable {X : Cx}
theorem cr_sortedH (hc : X.calm = true) (hu : X.A.units + 64 < cLine) : CallR X (.builtin "sorted") (rSortedH X.K X.prog X.w) := by
  intro pins s σ H xs us Q I r h
  obtain ⟨d, kvs, rfl, hd, hka, hal, q⟩ := h
  obtain ⟨u, rfl, rx⟩ := r.one
  cases rx
  obtain ⟨z, hs, ks, pr, o, es, ep, ho, hx, hdt, he, hn⟩ := (I.hok d _ hd).1
  have l1 : es.size = ks.length := size_of_entries he
  have l2 : kvs.length = ks.length := Paired.length pr
  refine PySem.W.sorted_src (kdl_raw hs hx hdt) (I.ok.hd hc) ho (by omega) fun h' tk acc kp it => ?_
  have ea : acc.toList = ks.map fun x => Value.ref x.2.1 := by
    have hl : acc.toList.length = ks.length := by rw [Array.length_toList, it.1]; exact l1
    apply List.ext_getElem?
    intro j
    rw [List.getElem?_map]
    cases hj : acc.toList[j]? with
    | none =>
      have h1 := List.getElem?_eq_none_iff.mp hj
      rw [List.getElem?_eq_none (by omega)]
      all_goals rfl
    | some v =>
      obtain ⟨en, hen, hv⟩ := it.2 j v (by rw [← Array.getElem?_toList]; exact hj)
      have qe := entry_at he j
      rw [hen] at qe
      cases hb : ks[j]? with
      | none =>
        rw [hb] at qe
        exact nomatch (show some en = none from qe)
      | some b =>
        rw [hb] at qe
        have e2 : en = entryOfKey (FK X.prog X.w) b := Option.some.inj qe
        rw [hv, e2]
        all_goals rfl
  have eb : acc.toList = (ks.map fun x => x.2.1).map Value.ref := by rw [ea, List.map_map]; all_goals rfl
  have rv : Vals ((ks.map fun x => x.2.1).map V.ref) acc.toList := by rw [eb]; exact vals_refs _
  have ik : ks.map (fun x => x.2.1) = kvs.map fun e => e.2.1 := uv_addrs pr
  rw [ik] at eb rv
  generalize hbs : kvs.map (fun e => e.2.1) = bs at eb rv
  have hbs' : bs.map V.ref = kvs.map fun e => V.ref e.2.1 := by rw [← hbs, List.map_map]; rfl
  have hdp : DpAll X.K H (bs.map V.ref) (kvs.map fun kv => keyDt kv.1) := by rw [hbs']; exact dp_ens hka
  have len := dpAll_len hdp
  have em : ((bs.map V.ref).zip (kvs.map fun kv => keyDt kv.1)).map Prod.snd = kvs.map fun kv => keyDt kv.1 := zip_snd len
  have I1 : Inv X pins σ H { s with heap := h', toks := tk } := I.kept kp
  have e := each_pairs I1 rv hdp
  have hoL : (h'.push (seqObj "list" acc.toList.toArray 0)).get? h'.objs.size = some (seqObj "list" acc.toList.toArray 0) := Heap.get?_push_size _ rfl
  have old : ∀ b u, h'.get? b = some u → (PySem.W.sortingHeap (h'.push (seqObj "list" acc.toList.toArray 0)) h'.objs.size acc.toList).get? b = some u := fun b u hb =>
    PySem.W.sortingHeap_old (Nat.ne_of_lt (Heap.lt_size hb)) (Heap.get?_push_of_some _ hb)
  have er : PySem.W.EachIs (fun (v : Value) (b : V × PyData) => ∃ as, Reads (PySem.W.sortingHeap (h'.push (seqObj "list" acc.toList.toArray 0)) h'.objs.size acc.toList) v b.2 as) acc.toList ((bs.map V.ref).zip (kvs.map fun kv => keyDt kv.1)) :=
    e.mono fun v b h => by
      obtain ⟨as, rr⟩ := Dp.reads I1 b.2 b.1 v h.2 h.1
      exact ⟨as, PyProof.Rows.Reads.keeps old rr⟩
  refine ⟨((bs.map V.ref).zip (kvs.map fun kv => keyDt kv.1)).map Prod.snd, PySem.W.SortsAt.ok (PySem.W.each_map (R := fun v d => ∃ as, Reads (PySem.W.sortingHeap (h'.push (seqObj "list" acc.toList.toArray 0)) h'.objs.size acc.toList) v d as) Prod.snd er) (by rw [em]; exact hal) (.inl ?_) (PySem.W.bound_map ?_), ?_⟩
  · intro d hd
    rw [em] at hd
    obtain ⟨kv, _, rfl⟩ := List.mem_map.mp hd
    exact ⟨_, rfl⟩
  · intro b hb
    have hb := (List.of_mem_zip hb).2
    obtain ⟨kv, _, e⟩ := List.mem_map.mp hb
    have := depth_key kv.1
    rw [← e]
    show X.A.units + 1 + 1 + (keyDt kv.1).depth < cLine
    omega
  · have eo := PySem.W.sortVals_data false e er (by rw [em]; exact hal)
    obtain ⟨o1, o2⟩ := pairs_out eo
    obtain ⟨c, hcc⟩ := PyProof.Rows.sortedHeap_at (vs := acc.toList) (out := (PySem.W.sortVals (PySem.W.dataKind (PySem.W.sortingHeap (h'.push (seqObj "list" acc.toList.toArray 0)) h'.objs.size acc.toList) (((bs.map V.ref).zip (kvs.map fun kv => keyDt kv.1)).map Prod.snd)) false acc.toList acc.toList).toArray) hoL
    have ln : (sortV (bs.map V.ref) (kvs.map fun kv : En => keyDt kv.1)).length ≤ sizeLine := by
      unfold sortV
      rw [List.length_map, List.length_mergeSort, List.length_zip, len, Nat.min_self, List.length_map]
      omega
    have o1 : Vals (sortV (bs.map V.ref) (kvs.map fun kv : En => keyDt kv.1)) _ := o1
    refine ⟨.ref h'.objs.size, upd H h'.objs.size (.lst (sortV (bs.map V.ref) (kvs.map fun kv : En => keyDt kv.1))), I1.laid (t' := tk) (fun b u e => ?_) (Nat.le_refl _) ⟨ln, _, c, o1, hcc⟩, rfl, hbs' ▸ q _ (I1.hok.fresh (Nat.le_refl _))⟩
    have hlt := Heap.lt_size e
    rw [PyProof.Rows.sortedHeap_old (Nat.ne_of_lt hlt) (by rw [size_push']; exact Nat.lt_succ_of_lt hlt)]
    exact Heap.get?_push_of_some _ e
end
end Wb

set_option Elab.async false
set_option linter.all false
set_option maxRecDepth 100000
set_option maxHeartbeats 4000000
/-! Wy0: things of one's own that change while a def runs (hidden: in H, not in B). -/
namespace Wv
open PySem PySem.Spec PyProof.Rows L2 Wb
theorem lt1 {a b : Nat} (h : a + 64 < b) : a + 1 < b := by omega
/-- at a stands o, and nobody else knows of it -/
structure Hid (B H : Hp) (a : Addr) (o : HO) : Prop where
  at_ : H a = some o
  no : B a = none
section
variable {B H B' H' B0 H0 : Hp} {a b : Addr} {o u : HO}
theorem Hid.ext (m : Hid B H a o) (e : Ext B H B' H') : Hid B' H' a o := ⟨e.hh _ _ m.at_, e.nw a (by rw [m.at_]; exact fun z => nomatch z) m.no⟩
theorem none_of (s : Same B H) (h : H a = none) : B a = none := by
  cases q : B a with
  | none => rfl
  | some x => rw [s _ _ q] at h; cases h
theorem Ext.newH (s : Same B H) (h : H a = none) : Ext B H B (upd H a o) := ⟨new_same h, Same.refl _, s.trans (new_same h), fun _ _ z => z⟩
theorem Hid.new (s : Same B H) (h : H a = none) : Hid B (upd H a o) a o := ⟨upd_same, none_of s h⟩
theorem Hid.set (m : Hid B H a o) : Hid B (upd H a u) a u := ⟨upd_same, m.no⟩
theorem Hid.other (m : Hid B H b u) (n : b ≠ a) : Hid B (upd H a o) b u := ⟨(upd_ne n).trans m.at_, m.no⟩
theorem Ext.setH (e : Ext B0 H0 B H) (m : Hid B H a o) (h : H0 a = none) : Ext B0 H0 B (upd H a u) :=
  ⟨fun b x z => by
    rw [upd_ne (ne_of_none z h)]
    exact e.hh b x z, e.bb, fun b x z => by
    rw [upd_ne (ne_of_none z m.no)]
    exact e.bh b x z, e.nw⟩
theorem Ext.settleH (e : Ext B0 H0 B H) (m : Hid B H a o) (h : H0 a = none) (n : B0 a = none) : Ext B0 H0 (upd B a o) H :=
  ⟨e.hh, fun b x z => by
    rw [upd_ne (ne_of_none z n)]
    exact e.bb b x z, fun b x z => by
    by_cases q : b = a
    · subst q
      rw [upd_same] at z
      cases z
      exact m.at_
    · rw [upd_ne q] at z
      exact e.bh b x z, fun b h1 h2 => by
    by_cases q : b = a
    · subst q
      exact absurd h h1
    · rw [upd_ne q]
      exact e.nw b h1 h2⟩
theorem Ext.oldH (e : Ext B0 H0 B H) (h : H a = none) : H0 a = none := by
  cases q : H0 a with
  | none => rfl
  | some x => rw [e.hh _ _ q] at h; cases h
end
/-- what is wanted behind a turn -/
def Nh (B0 H0 B1 : Hp) (P : L2.St → Hp → Hp → Prop) : L2.St → Hp → Prop := fun σ H' => ∃ B', Ext B0 H0 B' H' ∧ Same B1 B' ∧ P σ B' H'
theorem s_forX {σ : L2.St} {wi : TI} {g : TG} {ts rest : TS} {D : Ends} {Rs : List Rel} {B H B0 H0 : Hp} (e0 : Ext B0 H0 B H) (hi : Di wi σ B Rs) (Pv : Nat → L2.St → Hp → Hp → Prop) (h0 : ∀ B1 H1, Ext B H B1 H1 → Pv 0 σ B1 H1)
    (hs : ∀ B1 i R v σ' Bc Hc Bn Hn, Same B B1 → Rs[i]? = some R → Ext B0 H0 Bc Hc → Same B1 Bc → Pv i σ' Bc Hc → Ext Bc Hc Bn Hn → R Bn v → g v σ' Hn fun σ2 H2 => ts { D with nx := Nh B0 H0 B1 (Pv (i + 1)), ct := Nh B0 H0 B1 (Pv (i + 1)), bk := rest D } σ2 H2)
    (hd : ∀ σ' B' H', Ext B0 H0 B' H' → Same B B' → Pv Rs.length σ' B' H' → rest D σ' H') : tSeq (tFor wi g ts) rest D σ H :=
  hi B H (Same.refl _) e0.bh _ fun J B1 H1 e hw => by
    have := for_it hw (D := { D with nx := rest D }) (g := g) (tb := ts) (fun i => Nh B0 H0 B1 (Pv i)) ⟨B1, e0.trans e, Same.refl _, h0 B1 H1 e⟩ (fun i σ' H' _ ⟨B', s1, s2, _⟩ => s2.trans s1.bh)
      (fun i x σ' H' H'' hi ⟨Bc, s1, s2, p⟩ ⟨R, hR, y⟩ => by
        obtain ⟨Bn, e2, hx⟩ := y Bc s2 s1.bh
        exact hs B1 i R x σ' Bc H' Bn H'' e.bb hR s1 s2 p e2 hx)
      (fun σ' H' ⟨B', s1, s2, p⟩ => hd σ' B' H' s1 (e.bb.trans s2) p)
    exact this
/-- a triple taken apart -/
theorem gTup3 {K : PySem.W.Frag} {Bn H : Hp} {v : V} {R S T : Rel} {σ1 : L2.St} {i j l : Nat} (s : Same Bn H) (h : tupR K [R, S, T] Bn v) : ∃ x y z, R Bn x ∧ S Bn y ∧ T Bn z ∧ ∀ Q : L2.St → Hp → Prop, Q (((σ1.set i (some x)).set j (some y)).set l (some z)) H → gTup K 3 (gCons (gName i) (gCons (gName j) (gCons (gName l) gNil))) v σ1 H Q := by
  obtain ⟨a, xs, rfl, hs, x, r, rfl, hx, y, r', rfl, hy, z, r2, rfl, hz, hr⟩ := h
  have hr : r2 = [] := hr
  subst hr
  exact ⟨x, y, z, hx, hy, hz, fun Q q => ⟨a, _, rfl, seqT s hs, rfl, x, [y, z], rfl, y, [z], rfl, z, [], rfl, rfl, q⟩⟩
section
variable {K : PySem.W.Frag} {σ : L2.St} {B : Hp} {ta tb : TE} {R S T : Rel}
/-- d[k], of a dict that stays -/
def dicR (a : Addr) (kvs : List (Key × V)) : Rel := fun B v => v = .ref a ∧ B a = some (.dK kvs)
instance {a : Addr} {kvs : List (Key × V)} : Mo (dicR a kvs) := ⟨fun s ⟨e, h⟩ => ⟨e, s _ _ h⟩⟩
theorem De.dget {a : Addr} {kvs : List (Key × V)} {n : Int} {v : V} [m : Mo R] (hd : De ta σ B (dicR a kvs)) (hk : De tb σ B (dat K (.int n))) (l : valV kvs (.inl n) = some v) (hv : R B v) : De (tDGet ta tb) σ B R := fun B1 H s1 s2 Q q =>
  hd B1 H s1 s2 _ fun x B2 H2 e hx => hk B2 H2 (s1.trans e.bb) e.bh _ fun y B3 H3 e2 hy => by
    obtain ⟨rfl, ha⟩ := hx
    have := dat_int hy
    subst this
    exact ⟨a, v, rfl, DGet.k (k := .inl n) (e2.bh _ _ (e2.bb _ _ ha)) |> (l ▸ ·), q v B3 H3 (e.trans e2) (m.mo ((s1.trans e.bb).trans e2.bb) hv)⟩
end
end Wv

set_option Elab.async false
set_option linter.all false
set_option maxRecDepth 100000
set_option maxHeartbeats 4000000
/-! Ta0: the tally of letters, as lists. -/
namespace Ta
open PySem PySem.Spec PyProof.Rows
abbrev Wd := List Int
/-- a letter: number, edition, word -/
abbrev Lt := Int × Int × Wd
/-- a row of a tally: number, last edition, its words -/
abbrev Rw := Int × Int × List Wd
/-! ### each thing once -/
section
variable {α : Type} [DecidableEq α]
def add1 (f : List α) (x : α) : List α := if x ∈ f then f else f ++ [x]
def once (l : List α) : List α := l.foldl add1 []
theorem mem_add1 {f : List α} {x y : α} : y ∈ add1 f x ↔ y ∈ f ∨ y = x := by
  unfold add1
  split
  · next h => exact ⟨.inl, fun h' => h'.elim id fun e => e ▸ h⟩
  · simp
theorem nd_add1 {f : List α} {x : α} (h : f.Nodup) : (add1 f x).Nodup := by
  unfold add1
  split
  · exact h
  · next hx =>
    refine List.nodup_append.mpr ⟨h, List.pairwise_singleton _ _, fun a ha b hb e => ?_⟩
    rw [List.mem_singleton] at hb
    exact hx (hb ▸ e ▸ ha)
theorem once_snoc (l : List α) (x : α) : once (l ++ [x]) = add1 (once l) x := by unfold once; rw [List.foldl_append]; rfl
theorem once_foldl {l f : List α} : (∀ y, y ∈ l.foldl add1 f ↔ y ∈ f ∨ y ∈ l) ∧ (f.Nodup → (l.foldl add1 f).Nodup) := by
  induction l generalizing f with
  | nil => exact ⟨fun y => by simp, id⟩
  | cons x l ih =>
    rw [List.foldl_cons]
    refine ⟨fun y => ?_, fun h => ih.2 (nd_add1 h)⟩
    rw [ih.1, mem_add1, List.mem_cons, or_assoc]
theorem mem_once {l : List α} {y : α} : y ∈ once l ↔ y ∈ l := by
  have := (once_foldl (l := l) (f := [])).1 y
  unfold once
  simpa using this
theorem nd_once (l : List α) : (once l).Nodup := (once_foldl (l := l) (f := [])).2 List.nodup_nil
theorem once_perm {l m : List α} (h : ∀ y, y ∈ l ↔ y ∈ m) : (once l).Perm (once m) := (List.perm_ext_iff_of_nodup (nd_once l) (nd_once m)).mpr fun y => by rw [mem_once, mem_once]; exact h y
theorem once_len (l : List α) : (once l).length ≤ l.length := by
  have h : ∀ (l f : List α), (l.foldl add1 f).length ≤ f.length + l.length := fun l => by
    induction l with
    | nil => intro f; simp
    | cons x l ih =>
      intro f
      rw [List.foldl_cons, List.length_cons]
      have := ih (add1 f x)
      have h2 : (add1 f x).length ≤ f.length + 1 := by
        unfold add1
        split
        · omega
        · simp
      omega
  unfold once
  simpa using h l []
end
/-! ### sorted -/
theorem uniq_sorted {α : Type} {le : α → α → Prop} (anti : ∀ a b, le a b → le b a → a = b) : ∀ {l m : List α}, l.Perm m → l.Pairwise le → m.Pairwise le → l = m
  | [], m, p, _, _ => (p.nil_eq)
  | x :: l, [], p, _, _ => absurd p.length_eq (by simp)
  | x :: l, y :: m, p, h1, h2 => by
    have h1' := List.pairwise_cons.mp h1
    have h2' := List.pairwise_cons.mp h2
    have e : x = y := by
      have hx : x ∈ y :: m := p.mem_iff.mp List.mem_cons_self
      have hy : y ∈ x :: l := p.mem_iff.mpr List.mem_cons_self
      rcases List.mem_cons.mp hx with e | hx
      · exact e
      · rcases List.mem_cons.mp hy with e | hy
        · exact e.symm
        · exact anti _ _ (h1'.1 _ hy) (h2'.1 _ hx)
    subst e
    rw [uniq_sorted anti (List.Perm.cons_inv p) h1'.2 h2'.2]
def sortI (l : List Int) : List Int := l.mergeSort fun a b => decide (a ≤ b)
def sortW (l : List Wd) : List Wd := l.mergeSort fun a b => decide (a ≤ b)
theorem sortI_perm (l : List Int) : (sortI l).Perm l := List.mergeSort_perm _ _
theorem sortW_perm (l : List Wd) : (sortW l).Perm l := List.mergeSort_perm _ _
theorem sortI_pw (l : List Int) : (sortI l).Pairwise (· ≤ ·) := by
  have := List.pairwise_mergeSort (le := fun a b : Int => decide (a ≤ b)) (fun a b c h1 h2 => by simp at *; omega) (fun a b => by simp; omega) l
  exact this.imp fun h => by simpa using h
theorem wle_trans {a b c : Wd} (h1 : a ≤ b) (h2 : b ≤ c) : a ≤ c := List.le_trans h1 h2
theorem wle_anti {a b : Wd} (h1 : a ≤ b) (h2 : b ≤ a) : a = b := List.le_antisymm h1 h2
theorem wle_total (a b : Wd) : a ≤ b ∨ b ≤ a := List.le_total a b
theorem sortW_pw (l : List Wd) : (sortW l).Pairwise (· ≤ ·) := by
  have := List.pairwise_mergeSort (le := fun a b : Wd => decide (a ≤ b)) (fun a b c h1 h2 => decide_eq_true (wle_trans (of_decide_eq_true h1) (of_decide_eq_true h2))) (fun a b => by
    rcases wle_total a b with h | h
    · simp [h]
    · simp [h]) l
  exact this.imp fun h => of_decide_eq_true h
theorem sortI_uniq {l m : List Int} (p : l.Perm m) (h : l.Pairwise (· ≤ ·)) : l = sortI m := uniq_sorted (fun a b h1 h2 => Int.le_antisymm h1 h2) (p.trans (sortI_perm m).symm) h (sortI_pw m)
theorem sortI_eq {l m : List Int} (p : l.Perm m) : sortI l = sortI m := sortI_uniq ((sortI_perm l).trans p) (sortI_pw l)
theorem sortW_eq {l m : List Wd} (p : l.Perm m) : sortW l = sortW m := uniq_sorted (fun a b h1 h2 => wle_anti h1 h2) ((sortW_perm l).trans (p.trans (sortW_perm m).symm)) (sortW_pw l) (sortW_pw m)
theorem mem_sortI {l : List Int} {x : Int} : x ∈ sortI l ↔ x ∈ l := (sortI_perm l).mem_iff
theorem mem_sortW {l : List Wd} {x : Wd} : x ∈ sortW l ↔ x ∈ l := (sortW_perm l).mem_iff
/-! ### the tally -/
def nums (ls : List Lt) : List Int := ls.map (·.1)
def upd1 (n : Int) (m : Int) (x : Lt) : Int := if x.1 = n then max x.2.1 m else m
/-- the last edition of a number; 0 of none -/
def last (ls : List Lt) (n : Int) : Int := ls.foldl (upd1 n) 0
def wordsOf (ls : List Lt) (n : Int) : List Wd := (ls.filter fun x => decide (x.1 = n ∧ x.2.1 = last ls n)).map (·.2.2)
def tally (ls : List Lt) : List Rw := (sortI (once (nums ls))).map fun n => (n, last ls n, sortW (once (wordsOf ls n)))
def letters (rows : List Rw) : List Lt := rows.flatMap fun r => r.2.2.map fun w => (r.1, r.2.1, w)
/-- no edition is below 0 -/
def Pos (ls : List Lt) : Prop := ∀ x ∈ ls, 0 ≤ x.2.1
theorem Pos.app {a b : List Lt} (h1 : Pos a) (h2 : Pos b) : Pos (a ++ b) := fun x hx => (List.mem_append.mp hx).elim (h1 x) (h2 x)
theorem last_from (n : Int) : ∀ (ls : List Lt) (m : Int), m ≤ ls.foldl (upd1 n) m ∧ (∀ x ∈ ls, x.1 = n → x.2.1 ≤ ls.foldl (upd1 n) m) ∧ (ls.foldl (upd1 n) m = m ∨ ∃ x ∈ ls, x.1 = n ∧ x.2.1 = ls.foldl (upd1 n) m)
  | [], m => ⟨Int.le_refl _, fun x hx => (nomatch hx), .inl rfl⟩
  | y :: ls, m => by
    rw [List.foldl_cons]
    obtain ⟨h1, h2, h3⟩ := last_from n ls (upd1 n m y)
    have hm : m ≤ upd1 n m y := by
      unfold upd1
      split
      · exact Int.le_max_right _ _
      · exact Int.le_refl _
    refine ⟨Int.le_trans hm h1, fun x hx e => ?_, ?_⟩
    · rcases List.mem_cons.mp hx with rfl | hx
      · refine Int.le_trans ?_ h1
        unfold upd1
        rw [if_pos e]
        exact Int.le_max_left _ _
      · exact h2 x hx e
    · rcases h3 with h3 | ⟨x, hx, e1, e2⟩
      · by_cases e : y.1 = n
        · have : upd1 n m y = m ∨ upd1 n m y = y.2.1 := by
            unfold upd1
            rw [if_pos e]
            omega
          rcases this with h | h
          · exact .inl (h3.trans h)
          · exact .inr ⟨y, List.mem_cons_self, e, (h3.trans h).symm⟩
        · have h : upd1 n m y = m := by unfold upd1; rw [if_neg e]
          exact .inl (h3.trans h)
      · exact .inr ⟨x, List.mem_cons_of_mem _ hx, e1, e2⟩
theorem last_ge {ls : List Lt} {x : Lt} (h : x ∈ ls) : x.2.1 ≤ last ls x.1 := (last_from x.1 ls 0).2.1 x h rfl
theorem last_pos (ls : List Lt) (n : Int) : 0 ≤ last ls n := (last_from n ls 0).1
theorem last_at {ls : List Lt} {n : Int} (p : Pos ls) (h : n ∈ nums ls) : ∃ w, (n, last ls n, w) ∈ ls := by
  obtain ⟨x, hx, rfl⟩ := List.mem_map.mp h
  rcases (last_from x.1 ls 0).2.2 with e | ⟨y, hy, e1, e2⟩
  · refine ⟨x.2.2, ?_⟩
    have h1 := last_ge hx
    have h2 := p x hx
    have e' : last ls x.1 = 0 := e
    have : x.2.1 = last ls x.1 := by omega
    rw [← this]
    exact hx
  · refine ⟨y.2.2, ?_⟩
    have : last ls x.1 = y.2.1 := e2.symm
    rw [this, ← e1]
    exact hy
theorem last_uniq {ls : List Lt} {n m : Int} (h0 : 0 ≤ m) (h1 : ∀ x ∈ ls, x.1 = n → x.2.1 ≤ m) (h2 : m = 0 ∨ ∃ x ∈ ls, x.1 = n ∧ x.2.1 = m) : last ls n = m := by
  have a := (last_from n ls 0).2.1
  have b := last_pos ls n
  have c := (last_from n ls 0).2.2
  have d : last ls n ≤ m := by
    rcases c with c | ⟨x, hx, e1, e2⟩
    · have : last ls n = 0 := c
      omega
    · have : x.2.1 = last ls n := e2
      have := h1 x hx e1
      omega
  have e : m ≤ last ls n := by
    rcases h2 with h2 | ⟨x, hx, e1, e2⟩
    · omega
    · have : x.2.1 ≤ last ls n := a x hx e1
      omega
  omega
theorem mem_words {ls : List Lt} {n : Int} {w : Wd} : w ∈ wordsOf ls n ↔ (n, last ls n, w) ∈ ls := by
  unfold wordsOf
  rw [List.mem_map]
  constructor
  · rintro ⟨x, hx, rfl⟩
    obtain ⟨h, e⟩ := List.mem_filter.mp hx
    obtain ⟨e1, e2⟩ := of_decide_eq_true e
    rw [← e2, ← e1]
    exact h
  · intro h
    exact ⟨_, List.mem_filter.mpr ⟨h, decide_eq_true ⟨rfl, rfl⟩⟩, rfl⟩
/-- what a tally hangs on -/
theorem tally_of {a b : List Lt} (hn : ∀ n, n ∈ nums a ↔ n ∈ nums b) (hl : ∀ n, n ∈ nums a → last a n = last b n) (hw : ∀ n w, n ∈ nums a → ((n, last a n, w) ∈ a ↔ (n, last b n, w) ∈ b)) : tally a = tally b := by
  unfold tally
  rw [sortI_eq (once_perm hn)]
  refine List.map_congr_left fun n h => ?_
  have h : n ∈ nums a := (hn n).mpr (mem_once.mp (mem_sortI.mp h))
  rw [hl n h, sortW_eq (once_perm fun w => (mem_words (ls := a)).trans ((hw n w h).trans mem_words.symm))]
theorem tally_ext {a b : List Lt} (h : ∀ x, x ∈ a ↔ x ∈ b) : tally a = tally b := by
  have hl : ∀ n, last a n = last b n := fun n => by
    refine last_uniq (last_pos _ _) (fun x hx e => e ▸ last_ge ((h x).mp hx)) ?_
    rcases (last_from n b 0).2.2 with e | ⟨x, hx, e1, e2⟩
    · exact .inl e
    · exact .inr ⟨x, (h x).mpr hx, e1, e2⟩
  refine tally_of (fun n => ?_) (fun n _ => hl n) fun n w _ => by rw [hl n]; exact h _
  unfold nums
  rw [List.mem_map, List.mem_map]
  exact ⟨fun ⟨x, hx, e⟩ => ⟨x, (h x).mp hx, e⟩, fun ⟨x, hx, e⟩ => ⟨x, (h x).mpr hx, e⟩⟩
theorem mem_letters {ls : List Lt} {x : Lt} : x ∈ letters (tally ls) ↔ x ∈ ls ∧ x.2.1 = last ls x.1 := by
  unfold letters tally
  rw [List.mem_flatMap]
  constructor
  · rintro ⟨r, hr, hx⟩
    obtain ⟨n, hn, rfl⟩ := List.mem_map.mp hr
    obtain ⟨w, hw, rfl⟩ := List.mem_map.mp hx
    exact ⟨mem_words.mp (mem_once.mp (mem_sortW.mp hw)), rfl⟩
  · rintro ⟨hx, e⟩
    refine ⟨_, List.mem_map.mpr ⟨x.1, mem_sortI.mpr (mem_once.mpr (List.mem_map.mpr ⟨x, hx, rfl⟩)), rfl⟩, List.mem_map.mpr ⟨x.2.2, mem_sortW.mpr (mem_once.mpr (mem_words.mpr (by rw [← e]; exact hx))), by rw [← e]⟩⟩
theorem Pos.letters {ls : List Lt} (p : Pos ls) : Pos (letters (tally ls)) := fun x hx => p x (mem_letters.mp hx).1
/-- told together with others, the letters of a tally tell what all of them tell -/
theorem tally_back {a b c : List Lt} (p : Pos a) (q : Pos b) (hs : ∀ x, x ∈ c ↔ x ∈ letters (tally a) ∨ x ∈ letters (tally b)) : tally c = tally (a ++ b) := by
  have pc : Pos (a ++ b) := p.app q
  have sub : ∀ x, x ∈ c → x ∈ a ++ b := fun x hx => List.mem_append.mpr (((hs x).mp hx).imp (fun h => (mem_letters.mp h).1) fun h => (mem_letters.mp h).1)
  have up : ∀ x, x ∈ a ++ b → x.2.1 = last (a ++ b) x.1 → x ∈ c := fun x hx e => by
    refine (hs x).mpr ((List.mem_append.mp hx).imp (fun h => mem_letters.mpr ⟨h, ?_⟩) fun h => mem_letters.mpr ⟨h, ?_⟩)
    · obtain ⟨w, hw⟩ := last_at p (List.mem_map.mpr ⟨x, h, rfl⟩)
      have h1 := last_ge h
      have h2 : last a x.1 ≤ last (a ++ b) x.1 := last_ge (x := (x.1, last a x.1, w)) (List.mem_append.mpr (.inl hw))
      omega
    · obtain ⟨w, hw⟩ := last_at q (List.mem_map.mpr ⟨x, h, rfl⟩)
      have h1 := last_ge h
      have h2 : last b x.1 ≤ last (a ++ b) x.1 := last_ge (x := (x.1, last b x.1, w)) (List.mem_append.mpr (.inr hw))
      omega
  have hn : ∀ n, n ∈ nums c ↔ n ∈ nums (a ++ b) := fun n => by
    constructor
    · intro h
      obtain ⟨x, hx, e⟩ := List.mem_map.mp h
      exact List.mem_map.mpr ⟨x, sub x hx, e⟩
    · intro h
      obtain ⟨w, hw⟩ := last_at pc h
      exact List.mem_map.mpr ⟨_, up _ hw rfl, rfl⟩
  have hl : ∀ n, n ∈ nums c → last c n = last (a ++ b) n := fun n h => by
    refine last_uniq (last_pos _ _) (fun x hx e => e ▸ last_ge (sub x hx)) (.inr ?_)
    obtain ⟨w, hw⟩ := last_at pc ((hn n).mp h)
    exact ⟨_, up _ hw rfl, rfl, rfl⟩
  refine tally_of hn hl fun n w h => ?_
  rw [hl n h]
  exact ⟨fun hx => sub _ hx, fun hx => up _ hx rfl⟩
theorem tally_merge {a b : List Lt} (p : Pos a) (q : Pos b) : tally (letters (tally a) ++ letters (tally b)) = tally (a ++ b) := tally_back p q fun x => List.mem_append
theorem tally_heard {a : List Lt} {x : Lt} (p : Pos a) (q : 0 ≤ x.2.1) : tally (letters (tally a) ++ [x]) = tally (a ++ [x]) := by
  refine tally_back (b := [x]) p (fun y hy => by rw [List.mem_singleton] at hy; rw [hy]; exact q) fun y => ?_
  rw [List.mem_append, List.mem_singleton, mem_letters (ls := [x]), List.mem_singleton]
  refine or_congr Iff.rfl ⟨fun e => ⟨e, ?_⟩, fun h => h.1⟩
  subst e
  have h1 := last_ge (ls := [y]) List.mem_cons_self
  rcases (last_from y.1 [y] 0).2.2 with e | ⟨z, hz, e1, e2⟩
  · have e' : last [y] y.1 = 0 := e
    omega
  · rw [List.mem_singleton] at hz
    subst hz
    exact e2
end Ta

set_option Elab.async false
set_option linter.all false
set_option maxRecDepth 100000
set_option maxHeartbeats 4000000
/-! Ta1: the dicts by which a tally is told. -/
namespace Ta
open PySem PySem.Spec PyProof.Rows L2 Wb
theorem last_snoc (l : List Lt) (x : Lt) (n : Int) : last (l ++ [x]) n = if x.1 = n then max x.2.1 (last l n) else last l n := by
  unfold last
  rw [List.foldl_append]
  rfl
theorem last_none {l : List Lt} {n : Int} (h : n ∉ nums l) : last l n = 0 := by
  rcases (last_from n l 0).2.2 with e | ⟨x, hx, e1, _⟩
  · exact e
  · exact absurd (List.mem_map.mpr ⟨x, hx, e1⟩) h
theorem nums_snoc (l : List Lt) (x : Lt) : nums (l ++ [x]) = nums l ++ [x.1] := by unfold nums; rw [List.map_append]; rfl
/-- numbers by what stands for them -/
def byN (f : Int → V) (ns : List Int) : List (Key × V) := ns.map fun n => (.inl n, f n)
theorem val_byN {f : Int → V} {n : Int} : ∀ {ns : List Int}, valV (byN f ns) (.inl n) = if n ∈ ns then some (f n) else none
  | [] => rfl
  | m :: ns => by
    by_cases e : m = n
    · subst e
      rw [if_pos List.mem_cons_self]
      exact valV_pos rfl
    · have e1 : ¬ (Sum.inl m : Key) = .inl n := fun z => e (Sum.inl.inj z)
      have : valV (byN f (m :: ns)) (.inl n) = valV (byN f ns) (.inl n) := valV_neg e1
      rw [this, val_byN]
      by_cases h : n ∈ ns
      · rw [if_pos h, if_pos (List.mem_cons_of_mem _ h)]
      · rw [if_neg h, if_neg fun z => (List.mem_cons.mp z).elim (fun z => e z.symm) h]
theorem put_byN {f g : Int → V} {ns : List Int} {n : Int} {v : V} (hv : g n = v) (hf : ∀ m, m ≠ n → g m = f m) : putK (byN f ns) (.inl n) v = byN g (add1 ns n) := by
  unfold add1
  by_cases h : n ∈ ns
  · rw [if_pos h]
    unfold putK
    rw [if_pos (by rw [valV_any, val_byN, if_pos h]; rfl)]
    unfold byN
    rw [List.map_map]
    refine List.map_congr_left fun m _ => ?_
    by_cases e : m = n
    · subst e
      show (if (Sum.inl m : Key) = .inl m then ((Sum.inl m : Key), v) else _) = _
      rw [if_pos rfl, hv]
    · show (if (Sum.inl m : Key) = .inl n then _ else ((Sum.inl m : Key), f m)) = _
      rw [if_neg fun z => e (Sum.inl.inj z), hf m e]
  · rw [if_neg h, putK_new _ (by rw [val_byN, if_neg h])]
    unfold byN
    rw [List.map_append]
    congr 1
    · refine List.map_congr_left fun m hm => ?_
      rw [hf m fun e => h (e ▸ hm)]
    · rw [List.map_cons, hv]
      rfl
/-- the last editions, as they are met -/
def eds (l : List Lt) : List (Key × V) := byN (fun n => .int (last l n)) (once (nums l))
theorem get_eds (l : List Lt) (n : Int) : (valV (eds l) (.inl n)).getD (.int 0) = .int (last l n) := by
  unfold eds
  rw [val_byN]
  by_cases h : n ∈ nums l
  · rw [if_pos (mem_once.mpr h)]
    rfl
  · rw [if_neg fun z => h (mem_once.mp z), last_none h]
    rfl
theorem put_eds (l : List Lt) (x : Lt) : putK (eds l) (.inl x.1) (.int (max x.2.1 (last l x.1))) = eds (l ++ [x]) := by
  unfold eds
  rw [nums_snoc, once_snoc]
  refine put_byN ?_ fun m e => ?_
  · show V.int (last (l ++ [x]) x.1) = _
    rw [last_snoc, if_pos rfl]
  · show V.int (last (l ++ [x]) m) = _
    rw [last_snoc, if_neg fun z => e z.symm]
theorem eds_len (l : List Lt) : (eds l).length ≤ l.length := by
  unfold eds byN
  rw [List.length_map]
  exact Nat.le_trans (once_len _) (by unfold nums; rw [List.length_map]; exact Nat.le_refl _)
theorem val_eds {l : List Lt} {n : Int} (h : n ∈ nums l) : valV (eds l) (.inl n) = some (.int (last l n)) := by
  unfold eds
  rw [val_byN, if_pos (mem_once.mpr h)]
/-- the words of a number that were met among t, of its last edition among ls -/
def met (ls t : List Lt) (n : Int) : List Wd := once ((t.filter fun x => decide (x.1 = n ∧ x.2.1 = last ls n)).map (·.2.2))
theorem met_all (ls : List Lt) (n : Int) : met ls ls n = once (wordsOf ls n) := rfl
theorem met_snoc (ls t : List Lt) (x : Lt) (n : Int) : met ls (t ++ [x]) n = if x.1 = n ∧ x.2.1 = last ls n then add1 (met ls t n) x.2.2 else met ls t n := by
  unfold met
  rw [List.filter_append, List.map_append]
  by_cases h : x.1 = n ∧ x.2.1 = last ls n
  · rw [if_pos h]
    have : [x].filter (fun x => decide (x.1 = n ∧ x.2.1 = last ls n)) = [x] := by
      rw [List.filter_cons, if_pos (decide_eq_true h)]
      rfl
    rw [this]
    exact once_snoc _ _
  · rw [if_neg h]
    have : [x].filter (fun x => decide (x.1 = n ∧ x.2.1 = last ls n)) = [] := by
      rw [List.filter_cons, if_neg (fun z => h (of_decide_eq_true z))]
      rfl
    rw [this, List.map_nil, List.append_nil]
/-- a word as a key -/
def wk (w : Wd) : List Key := w.map .inl
theorem wk_inj {u w : Wd} (h : wk u = wk w) : u = w := by
  unfold wk at h
  exact (List.map_inj_right fun a b e => Sum.inl.inj e).mp h
/-- a dict of words, each with True -/
structure Ws (K : PySem.W.Frag) (B : Hp) (ws : List Wd) (kvs : List En) : Prop where
  keys : kvs.map (·.1) = ws.map wk
  vals : ∀ p ∈ kvs, p.2.2 = .bl true
  at_ : KeysAt K B kvs
theorem Ws.nil {K : PySem.W.Frag} {B : Hp} : Ws K B [] [] := ⟨rfl, fun p h => (nomatch h), fun p h => (nomatch h)⟩
theorem atH_some {kvs : List En} {k : List Key} : (atH kvs k).isSome = true ↔ k ∈ kvs.map (·.1) := by
  unfold atH
  rw [Option.isSome_map, List.find?_isSome, List.mem_map]
  exact ⟨fun ⟨x, hx, e⟩ => ⟨x, hx, of_decide_eq_true e⟩, fun ⟨x, hx, e⟩ => ⟨x, hx, decide_eq_true e⟩⟩
theorem Ws.put {K : PySem.W.Frag} {B : Hp} {ws : List Wd} {kvs : List En} (h : Ws K B ws kvs) {w : Wd} {b : Addr} (hb : KeyAt K B (wk w) b) : Ws K B (add1 ws w) (putH kvs (wk w) b (.bl true)) := by
  unfold add1 putH
  have e : (atH kvs (wk w)).isSome = true ↔ w ∈ ws := by
    rw [atH_some, h.keys, List.mem_map]
    exact ⟨fun ⟨u, hu, e⟩ => wk_inj e ▸ hu, fun hu => ⟨w, hu, rfl⟩⟩
  by_cases q : w ∈ ws
  · rw [if_pos q, if_pos (e.mpr q)]
    have same : kvs.map (fun p => if p.1 = wk w then (p.1, p.2.1, V.bl true) else p) = kvs := by
      refine (List.map_congr_left fun p hp => ?_).trans (List.map_id _)
      split
      · rw [← h.vals p hp]
        rfl
      · rfl
    rw [same]
    exact h
  · rw [if_neg q, if_neg fun z => q (e.mp z)]
    refine ⟨by rw [List.map_append, List.map_append, h.keys]; rfl, fun p hp => ?_, fun p hp => ?_⟩
    · rcases List.mem_append.mp hp with hp | hp
      · exact h.vals p hp
      · rw [List.mem_singleton] at hp
        rw [hp]
    · rcases List.mem_append.mp hp with hp | hp
      · exact h.at_ p hp
      · rw [List.mem_singleton] at hp
        rw [hp]
        exact hb
theorem Ws.mono {K : PySem.W.Frag} {B B' : Hp} {ws : List Wd} {kvs : List En} (h : Ws K B ws kvs) (s : ∀ a o, B a = some o → B' a = some o) : Ws K B' ws kvs := ⟨h.keys, h.vals, fun p hp => (h.at_ p hp).same s⟩
theorem Ws.len {K : PySem.W.Frag} {B : Hp} {ws : List Wd} {kvs : List En} (h : Ws K B ws kvs) : kvs.length = ws.length := by
  have := congrArg List.length h.keys
  rwa [List.length_map, List.length_map] at this
end Ta

set_option Elab.async false
set_option linter.all false
set_option maxRecDepth 100000
set_option maxHeartbeats 4000000
/-! Wy1: {n: {} for n in d}. -/
namespace Wv
open PySem PySem.Spec PyProof.Rows L2 Wb Ta
theorem dc_news {P : Program} {w : World} {σ : L2.St} {j : Nat} {E D : Addr} {od : Obj} {f : Int → V} {ns : List Int} {H1 : Hp} {Qd : Hp → Prop} (hw : ∀ x, wipe ((wipe σ [j]).set j (some x)) [j] = wipe σ [j]) (hx : ∀ x, ((wipe σ [j]).set j (some x))[j]? = some (some x))
    (hE : H1 E = some (.frz od (.dK (byN f ns)))) (hD : H1 D = none) (nd : ns.Nodup) (few : ns.length < sizeLine)
    (hd : ∀ (as : List Addr) (J : Hp), as.length = ns.length → as.Nodup → (∀ a ∈ as, H1 a = none ∧ a ≠ D ∧ J a = some (DicO P w a [])) → J D = some (.dK ((ns.zip as).map fun p => (.inl p.1, .ref p.2))) → (∀ b, b ∉ as → b ≠ D → J b = H1 b) → Qd J) :
    ∃ W : Nat → Nat → Hp → Prop, (∃ m, W 0 m (upd H1 D (.dK []))) ∧ ∀ i m H, W i m H →
      ((Itk E od (byN f ns)).stop i H ∧ Qd H) ∨ ((Itk E od (byN f ns)).go i H ∧ ∃ Nx : Hp → Prop, (∀ H', Nx H' → ∃ m', m' < m ∧ W (i + 1) m' H') ∧ ∀ x H', (Itk E od (byN f ns)).yld i H x H' → gName j x (wipe σ [j]) H' fun σ2 H2 => wipe σ2 [j] = wipe σ [j] ∧ tYes σ2 H2 fun b H3 =>
        if b = true then (tVar j) σ2 H3 fun y H4 => (tHNew P w) σ2 H4 fun z H5 => ∃ kvs k, y = kV k ∧ H5 D = some (.dK kvs) ∧ kvs.length < sizeLine ∧ Nx (upd H5 D (.dK (putK kvs k z))) else Nx H3) := by
  have nE : E ≠ D := ne_of_none hE hD
  have ln : (byN f ns).length = ns.length := by unfold byN; rw [List.length_map]
  let Pv : Nat → Hp → Prop := fun i J => ∃ as : List Addr, as.length = i ∧ i ≤ ns.length ∧ as.Nodup ∧ (∀ a ∈ as, H1 a = none ∧ a ≠ D ∧ J a = some (DicO P w a [])) ∧ J D = some (.dK (((ns.take i).zip as).map fun p => (.inl p.1, .ref p.2))) ∧ ∀ b, b ∉ as → b ≠ D → J b = H1 b
  have frE : ∀ {i J}, Pv i J → J E = some (.frz od (.dK (byN f ns))) := fun {i J} ⟨as, _, _, _, h, _, o⟩ => by
    rw [o E (fun z => by rw [(h E z).1] at hE; cases hE) nE]
    exact hE
  refine ⟨fun i m J => m = ns.length - i ∧ Pv i J, ⟨ns.length, by simp, [], rfl, Nat.zero_le _, List.nodup_nil, fun a h => (nomatch h), by rw [upd_same]; simp, fun b _ n => upd_ne n⟩, ?_⟩
  rintro i m J ⟨rfl, p⟩
  have e := frE p
  obtain ⟨as, hl, hi, hn, ha, hJ, ho⟩ := p
  by_cases lt : i < ns.length
  · refine .inr ⟨⟨e, by rw [ln]; exact lt⟩, Pv (i + 1), fun H' p' => ⟨ns.length - (i + 1), by omega, rfl, p'⟩, fun x H' y => ?_⟩
    obtain ⟨rfl, k, v, hk, rfl⟩ := y
    have hn' : ns[i]? = some ns[i] := List.getElem?_eq_getElem lt
    have hk' : (byN f ns)[i]? = some (.inl ns[i], f ns[i]) := by
      unfold byN
      rw [List.getElem?_map, hn']
      rfl
    rw [hk'] at hk
    cases hk
    refine ⟨hw _, ?_⟩
    unfold tYes
    dsimp only
    rw [if_pos rfl]
    refine ⟨_, hx _, fun p hp => ?_⟩
    have pa : p ∉ as := fun z => by rw [(ha p z).2.2] at hp; cases hp
    have pD : p ≠ D := fun z => by rw [z, hJ] at hp; cases hp
    have pH : H1 p = none := by rw [← ho p pa pD]; exact hp
    have tk : (ns.take (i + 1)).zip (as ++ [p]) = (ns.take i).zip as ++ [(ns[i], p)] := by
      rw [List.take_succ, hn', Option.toList_some, List.zip_append (by rw [List.length_take]; omega)]
      rfl
    refine ⟨_, .inl ns[i], rfl, (upd_ne fun z => pD z.symm).trans hJ, ?_, as ++ [p], by simp [hl], lt, ?_, fun a h => ?_, ?_, fun b nb nbD => ?_⟩
    · rw [List.length_map, List.length_zip, List.length_take]
      omega
    · refine List.nodup_append.mpr ⟨hn, List.pairwise_singleton _ _, fun a h1 b h2 z => ?_⟩
      rw [List.mem_singleton] at h2
      exact pa (h2 ▸ z ▸ h1)
    · rcases List.mem_append.mp h with h | h
      · obtain ⟨h1, h2, h3⟩ := ha a h
        refine ⟨h1, h2, ?_⟩
        rw [upd_ne h2, upd_ne (show a ≠ p from fun z => pa (z ▸ h))]
        exact h3
      · rw [List.mem_singleton] at h
        subst h
        refine ⟨pH, pD, ?_⟩
        rw [upd_ne pD, upd_same]
    · rw [upd_same, putK_new, tk, List.map_append]
      · rfl
      · cases q : valV (((ns.take i).zip as).map fun p => ((.inl p.1 : Key), V.ref p.2)) (.inl ns[i]) with
        | none => rfl
        | some z =>
          exfalso
          have a := valV_any (.inl ns[i] : Key) (((ns.take i).zip as).map fun p => ((.inl p.1 : Key), V.ref p.2))
          rw [q] at a
          obtain ⟨c, hc, hcc⟩ := List.any_eq_true.mp a
          obtain ⟨d, hd, rfl⟩ := List.mem_map.mp hc
          have e1 : d.1 = ns[i] := Sum.inl.inj (of_decide_eq_true hcc)
          have e2 : d.1 ∈ ns.take i := (List.of_mem_zip hd).1
          rw [e1] at e2
          obtain ⟨j, hj, e3⟩ := List.mem_take_iff_getElem.mp e2
          exact List.pairwise_iff_getElem.mp nd j i (by omega) lt (by omega) e3
    · have n1 : b ∉ as := fun z => nb (List.mem_append_left _ z)
      have n2 : b ≠ p := fun z => nb (List.mem_append_right _ (by rw [z]; exact List.mem_singleton.mpr rfl))
      rw [upd_ne nbD, upd_ne n2]
      exact ho b n1 nbD
  · have e' : i = ns.length := by omega
    subst e'
    rw [List.take_length] at hJ
    exact .inl ⟨⟨e, by rw [ln]; exact Nat.le_refl _⟩, hd as J hl hn ha hJ ho⟩
/-- what stands for a number -/
def adOf (ns : List Int) (as : List Addr) (n : Int) : Addr := (as[ns.idxOf n]?).getD 0
theorem adOf_mem {ns : List Int} {as : List Addr} {n : Int} (hl : as.length = ns.length) (h : n ∈ ns) : adOf ns as n ∈ as := by
  unfold adOf
  have lt : ns.idxOf n < as.length := by rw [hl]; exact List.idxOf_lt_length_of_mem h
  rw [List.getElem?_eq_getElem lt]
  exact List.getElem_mem lt
theorem adOf_inj {ns : List Int} {as : List Addr} {n m : Int} (hl : as.length = ns.length) (nd : as.Nodup) (h1 : n ∈ ns) (h2 : m ∈ ns) (e : adOf ns as n = adOf ns as m) : n = m := by
  unfold adOf at e
  have l1 : ns.idxOf n < ns.length := List.idxOf_lt_length_of_mem h1
  have l2 : ns.idxOf m < ns.length := List.idxOf_lt_length_of_mem h2
  rw [List.getElem?_eq_getElem (by omega), List.getElem?_eq_getElem (by omega)] at e
  have q : ns.idxOf n = ns.idxOf m := by
    rcases Nat.lt_trichotomy (ns.idxOf n) (ns.idxOf m) with h | h | h
    · exact absurd e (List.pairwise_iff_getElem.mp nd _ _ (by omega) (by omega) h)
    · exact h
    · exact absurd e.symm (List.pairwise_iff_getElem.mp nd _ _ (by omega) (by omega) h)
  have a : ns[ns.idxOf n] = n := List.getElem_idxOf l1
  have b : ns[ns.idxOf m] = m := List.getElem_idxOf l2
  rw [← a, ← b]
  simp only [q]
theorem zip_byN {ns : List Int} {as : List Addr} (hl : as.length = ns.length) (nd : ns.Nodup) : ((ns.zip as).map fun p => ((.inl p.1 : Key), V.ref p.2)) = byN (fun n => .ref (adOf ns as n)) ns := by
  apply List.ext_getElem?
  intro i
  unfold byN
  rw [List.getElem?_map, List.getElem?_map]
  by_cases lt : i < ns.length
  · have la : i < as.length := by omega
    have h1 : (ns.zip as)[i]? = some (ns[i], as[i]) := by
      rw [List.getElem?_eq_getElem (by rw [List.length_zip]; omega), List.getElem_zip]
    rw [h1, List.getElem?_eq_getElem lt]
    have q : ns.idxOf ns[i] = i := by
      have l1 : ns.idxOf ns[i] < ns.length := List.idxOf_lt_length_of_mem (List.getElem_mem lt)
      have a : ns[ns.idxOf ns[i]] = ns[i] := List.getElem_idxOf l1
      rcases Nat.lt_trichotomy (ns.idxOf ns[i]) i with h | h | h
      · exact absurd a (List.pairwise_iff_getElem.mp nd _ _ l1 lt h)
      · exact h
      · exact absurd a.symm (List.pairwise_iff_getElem.mp nd _ _ lt l1 h)
    show some ((Sum.inl ns[i] : Key), V.ref as[i]) = some (Sum.inl ns[i], V.ref (adOf ns as ns[i]))
    unfold adOf
    rw [q, List.getElem?_eq_getElem la]
    rfl
  · rw [List.getElem?_eq_none (by rw [List.length_zip]; omega), List.getElem?_eq_none (by omega)]
    rfl
end Wv

set_option Elab.async false
set_option linter.all false
set_option maxRecDepth 100000
set_option maxHeartbeats 4000000
/-! Wy2: hidden things laid open; sorted of dicts; words sorted. -/
namespace Wv
open PySem PySem.Spec PyProof.Rows L2 Wb Ta
section
variable {B H B0 H0 : Hp}
def openH (B H : Hp) (zs : List Addr) : Hp := fun b => if b ∈ zs then H b else B b
theorem Ext.openAll (e : Ext B0 H0 B H) {zs : List Addr} (hz : ∀ a ∈ zs, B a = none ∧ H0 a = none) : Ext B0 H0 (openH B H zs) H :=
  ⟨e.hh, fun b x z => by
    unfold openH
    rw [if_neg fun h => by have := (hz b h).1; rw [e.bb _ _ z] at this; cases this]
    exact e.bb b x z, fun b x z => by
    unfold openH at z
    split at z
    · exact z
    · exact e.bh b x z, fun b h1 h2 => by
    unfold openH
    rw [if_neg fun h => h1 (hz b h).2]
    exact e.nw b h1 h2⟩
theorem openH_sub {zs : List Addr} (hz : ∀ a ∈ zs, B a = none) : Same B (openH B H zs) := fun b x z => by
  unfold openH
  rw [if_neg fun h => by have := hz b h; rw [z] at this; cases this]
  exact z
theorem openH_at {zs : List Addr} {a : Addr} (h : a ∈ zs) : openH B H zs a = H a := if_pos h
end
section
variable {K : PySem.W.Frag} {σ : L2.St} {B : Hp} {ta : TE} {P : Program} {w : World}
/-- sorted(d), d a dict with ints as keys -/
theorem rc_sortedDI {a : Addr} {f : Int → V} {ns : List Int} (few : ns.length < 64) : Rc (fun xs H Q => ∃ (a : Addr) (kvs : List (Key × V)) (ks : List Int), xs = [.ref a] ∧ Rd H a (.dK kvs) ∧ kvs.map (·.1) = ks.map Sum.inl ∧ ks.length < 64 ∧
    ∀ (ys : List Int) (p : Addr), ys.Perm ks → ys.Pairwise (· ≤ ·) → H p = none → Q (.ref p) (upd H p (.lst (ys.map V.int)))) B [dicR a (byN f ns)] (dat K (.list ((sortI ns).map .int))) := fun vs B1 H _ s2 hv Q q => by
  obtain ⟨v, r, rfl, ⟨rfl, ha⟩, h2⟩ := hv
  have h2 : r = [] := h2
  subst h2
  refine ⟨a, byN f ns, ns, rfl, .inl (s2 _ _ ha), by unfold byN; rw [List.map_map]; rfl, few, fun ys p hp hs hn => ?_⟩
  rw [sortI_uniq hp hs]
  refine q _ (upd B1 p (.lst ((sortI ns).map V.int))) _ (.new s2 hn) (.lst (SqL.of upd_same) ?_)
  have all : ∀ (l : List Int) (H : Hp), DpAll K H (l.map V.int) (l.map PyData.int) := fun l H => by
    induction l with
    | nil => exact .nil
    | cons i l ih => exact .cons (.int i) ih
  exact all _ _
/-- a dict of words that stays -/
def wsR (K : PySem.W.Frag) (P : Program) (w : World) (a : Addr) (ws : List Wd) : Rel := fun B v => ∃ kvs, v = .ref a ∧ B a = some (DicO P w a kvs) ∧ Ws K B ws kvs
instance {a : Addr} {ws : List Wd} : Mo (wsR K P w a ws) := ⟨fun s ⟨kvs, e, h, q⟩ => ⟨kvs, e, s _ _ h, q.mono s⟩⟩
def wordD (x : Wd) : PyData := .tuple (x.map .int)
theorem keyDt_wk (x : Wd) : keyDt (wk x) = wordD x := by
  unfold keyDt wk wordD
  rw [List.map_map]
  rfl
theorem dle_word (a b : Wd) : dle (wordD a) (wordD b) = decide (a ≤ b) := by
  have h := congrFun (congrFun (PySem.W.dataLe_rows (fun x : Wd => x)) a) b
  rw [← h]
  show (!PySem.W.dataLt (.tuple (b.map .int)) (.tuple (a.map .int))) = (!PySem.W.dataLt (.list (b.map .int)) (.list (a.map .int)))
  rw [PySem.W.dataLt_tuple, PySem.W.dataLt_list]
theorem sortD_words (ws : List Wd) : sortD (ws.map wordD) = (sortW ws).map wordD := by
  unfold sortD sortW
  exact (List.map_mergeSort (s := dle) (f := wordD) (r := fun a b => decide (a ≤ b)) (fun a _ b _ => (dle_word a b).symm)).symm
theorem alike_ints : ∀ a b : Wd, PySem.W.alikeAll (a.map .int) (b.map .int) = true
  | [], _ => by simp [PySem.W.alikeAll]
  | _ :: _, [] => by simp [PySem.W.alikeAll]
  | x :: a, y :: b => by
    simp only [List.map_cons, PySem.W.alikeAll, PySem.W.alike, Bool.true_and]
    exact alike_ints a b
theorem alike_words (ws : List Wd) : PySem.W.AllAlike (ws.map wordD) := by
  intro d hd d' hd'
  obtain ⟨a, _, rfl⟩ := List.mem_map.mp hd
  obtain ⟨b, _, rfl⟩ := List.mem_map.mp hd'
  show PySem.W.alike (.tuple (a.map .int)) (.tuple (b.map .int)) = true
  simp only [PySem.W.alike]
  exact alike_ints a b
theorem rc_sortedW {a : Addr} {ws : List Wd} : Rc (rSortedH K P w) B [wsR K P w a ws] (dat K (.list ((sortW ws).map wordD))) := fun vs B1 H _ s2 hv Q q => by
  obtain ⟨v, r, rfl, ⟨kvs, rfl, ha, hw⟩, h2⟩ := hv
  have h2 : r = [] := h2
  subst h2
  have ek : (kvs.map fun kv => keyDt kv.1) = ws.map wordD := by
    have := congrArg (List.map keyDt) hw.keys
    rw [List.map_map, List.map_map] at this
    refine this.trans (List.map_congr_left fun x _ => keyDt_wk x)
  refine ⟨a, kvs, rfl, s2 _ _ ha, fun p hp => (hw.at_ p hp).same s2, by rw [ek]; exact alike_words ws, fun p hn => ?_⟩
  rw [← sortD_words, ← ek] at q
  exact q _ (upd B1 p _) _ (.new s2 hn) (.lst (SqL.of upd_same) (dpMonoAll (new_same (s2.free hn)) _ _ (dp_sort (dp_ens hw.at_))))
end
end Wv

set_option Elab.async false
set_option linter.all false
set_option maxRecDepth 100000
set_option maxHeartbeats 4000000
/-! Fm3: names: small letters alone, so many of them; their order. -/
namespace Fm
open PySem PySem.Spec PyProof.Rows L2 Wb Wv
def NmL (m n : Nat) (z : Str) : Prop := m ≤ z.length ∧ z.length ≤ n ∧ ∀ c ∈ z.cps.toList, 97 ≤ c ∧ c ≤ 122
theorem app_cps (x y : Str) : (x ++ y).cps.toList = x.cps.toList ++ y.cps.toList := Array.toList_append
theorem app_len (x y : Str) : (x ++ y).length = x.length + y.length := by
  show (x ++ y).cps.size = x.cps.size + y.cps.size
  rw [← Array.length_toList, app_cps, List.length_append]
  rfl
theorem NmL.mono {m n m' n' : Nat} {z : Str} (h : NmL m n z) (h1 : m' ≤ m) (h2 : n ≤ n') : NmL m' n' z := ⟨Nat.le_trans h1 h.1, Nat.le_trans h.2.1 h2, h.2.2⟩
theorem NmL.nmk {m n : Nat} {z : Str} (h : NmL m n z) : Nmk n z := ⟨h.2.1, fun c hc => by have := h.2.2 c hc; omega⟩
theorem NmL.app {m n m' n' : Nat} {x y : Str} (h : NmL m n x) (g : NmL m' n' y) : NmL (m + m') (n + n') (x ++ y) := by
  refine ⟨by rw [app_len]; exact Nat.add_le_add h.1 g.1, by rw [app_len]; exact Nat.add_le_add h.2.1 g.2.1, fun c hc => ?_⟩
  rw [app_cps] at hc
  exact (List.mem_append.mp hc).elim (h.2.2 c) (g.2.2 c)
theorem NmL.one {a : Nat} (h : 97 ≤ a ∧ a ≤ 122) : NmL 1 1 ⟨#[a]⟩ := ⟨Nat.le_refl _, Nat.le_refl _, fun c hc => by
  have : c = a := by simpa using hc
  omega⟩
theorem cutS_len (z : Str) (lo hi : Option Int) : (cutS z lo hi).length = min (HT.sIx z.length z.length hi - HT.sIx z.length 0 lo) (z.length - HT.sIx z.length 0 lo) := by
  unfold cutS
  show (List.toArray _).size = _
  rw [List.size_toArray, List.length_take, List.length_drop]
  rfl
/-- a stem with another sign at a place, or behind it -/
theorem NmL.stem {z : Str} {a : Nat} {r : Int} (hz : NmL 1 8 z) (ha : 97 ≤ a ∧ a ≤ 122) (r0 : 0 ≤ r) (r8 : r < 8) : NmL 1 8 (cutS z none (some r) ++ ⟨#[a]⟩ ++ cutS z (some (r + 1)) none) := by
  obtain ⟨n, rfl⟩ := Int.eq_ofNat_of_zero_le r0
  have l1 : (cutS z none (some (n : Int))).length = min n z.length := by
    rw [cutS_len, HT.sIx_nat, HT.sIx_none]
    omega
  have l2 : (cutS z (some ((n : Int) + 1)) none).length = z.length - min (n + 1) z.length := by
    rw [cutS_len, show ((n : Int) + 1) = ((n + 1 : Nat) : Int) from rfl, HT.sIx_nat, HT.sIx_none]
    omega
  have one : (⟨#[a]⟩ : Str).length = 1 := rfl
  have h8 := hz.2.1
  have h1 := hz.1
  refine ⟨by rw [app_len, app_len, one]; omega, by rw [app_len, app_len, one, l1, l2]; omega, fun c hc => ?_⟩
  rw [app_cps, app_cps] at hc
  rcases List.mem_append.mp hc with hc | hc
  · rcases List.mem_append.mp hc with hc | hc
    · exact hz.2.2 c (cutS_mem hc)
    · exact (NmL.one ha).2.2 c hc
  · exact hz.2.2 c (cutS_mem hc)
theorem join_nmL0 {sep : Str} (hs : sep.length = 0) : ∀ {zs : List Str}, (∀ z ∈ zs, NmL 1 1 z) → NmL zs.length zs.length (Str.join sep zs)
  | [], _ => ⟨Nat.zero_le _, Nat.zero_le _, fun c hc => by cases hc⟩
  | [x], h => h x List.mem_cons_self
  | x :: y :: r, h => by
    have a := h x List.mem_cons_self
    have b := join_nmL0 hs (zs := y :: r) fun z hz => h z (List.mem_cons_of_mem _ hz)
    have s0 : NmL 0 0 sep := ⟨Nat.zero_le _, by omega, fun c hc => by
      have : sep.cps.toList = [] := List.eq_nil_of_length_eq_zero (by rw [Array.length_toList]; exact hs)
      rw [this] at hc
      cases hc⟩
    show NmL _ _ (x ++ sep ++ Str.join sep (y :: r))
    refine ((a.app s0).app b).mono ?_ ?_
    all_goals
      simp only [List.length_cons]
      omega
theorem join_nmL {sep : Str} (hs : sep.length = 0) {zs : List Str} (h : ∀ z ∈ zs, NmL 1 1 z) : NmL zs.length zs.length (Txt.join sep zs) := by
  unfold Txt.join
  rw [StrLaws.glued_eq_join]
  exact join_nmL0 hs h
/-! ### what is asked of a name -/
theorem letters_are : ∀ c, 97 ≤ c → c ≤ 122 → Unicode.isAlpha c = true ∧ Unicode.isLower c = true ∧ Unicode.isUpper c = false ∧ Unicode.isTitle c = false := by
  intro c h1 h2
  have : ∀ c ∈ (List.range 26).map (· + 97), Unicode.isAlpha c = true ∧ Unicode.isLower c = true ∧ Unicode.isUpper c = false ∧ Unicode.isTitle c = false := by decide +kernel
  exact this c (List.mem_map.mpr ⟨c - 97, List.mem_range.mpr (by omega), by omega⟩)
theorem NmL.ascii {m n : Nat} {z : Str} (h : NmL m n z) : Txt.isascii z = true := by
  unfold Txt.isascii
  rw [← Array.all_toList, List.all_eq_true]
  intro c hc
  have := h.2.2 c hc
  exact decide_eq_true (by omega)
theorem NmL.alpha {m n : Nat} {z : Str} (h : NmL m n z) (m1 : 1 ≤ m) : Txt.isalpha z = true := by
  unfold Txt.isalpha
  rw [Bool.and_eq_true]
  refine ⟨decide_eq_true (Nat.lt_of_lt_of_le m1 h.1), ?_⟩
  rw [← Array.all_toList, List.all_eq_true]
  intro c hc
  have := h.2.2 c hc
  exact (letters_are c this.1 this.2).1
theorem NmL.lower {m n : Nat} {z : Str} (h : NmL m n z) (m1 : 1 ≤ m) : Txt.islower z = true := by
  unfold Txt.islower
  have len : 0 < z.cps.toList.length := by
    rw [Array.length_toList]
    exact Nat.lt_of_lt_of_le m1 h.1
  have h0 : z.cps.toList[0] ∈ z.cps.toList := List.getElem_mem len
  rw [Bool.and_eq_true]
  constructor
  · rw [← Array.any_toList, List.any_eq_true]
    have := h.2.2 _ h0
    exact ⟨_, h0, (letters_are _ this.1 this.2).2.1⟩
  · rw [Bool.not_eq_true', ← Array.any_toList, List.any_eq_false]
    intro c hc
    have := h.2.2 c hc
    obtain ⟨_, _, a, b⟩ := letters_are c this.1 this.2
    rw [a, b]
    decide
/-! ### the order of names -/
def Sl (a b : Str) : Prop := a.cps.toList < b.cps.toList
theorem dle_str (a b : Str) : dle (.str a) (.str b) = decide (a.cps.toList ≤ b.cps.toList) := by
  unfold dle PySem.W.dataLe PySem.W.sortLe
  simp only [PySem.W.keyToks, cond_false]
  show (!PyProof.Rows.lexLt PyProof.Rows.itemOrd [.inr b.cps.toList] [.inr a.cps.toList]) = _
  unfold PyProof.Rows.lexLt
  show (!(decide (b.cps.toList < a.cps.toList) || (!decide (a.cps.toList < b.cps.toList) && PyProof.Rows.lexLt PyProof.Rows.itemOrd [] []))) = _
  unfold PyProof.Rows.lexLt
  rw [Bool.and_false, Bool.or_false]
  by_cases h : b.cps.toList < a.cps.toList
  · rw [decide_eq_true h]
    exact (decide_eq_false (fun z => List.not_lt.mpr z h)).symm
  · rw [decide_eq_false h]
    exact (decide_eq_true (List.not_lt.mp h)).symm
theorem str_ext {a b : Str} (h : a.cps.toList = b.cps.toList) : a = b := by
  cases a
  cases b
  simpa using h
theorem sorted_strs {zs : List Str} (nd : zs.Nodup) : ∃ ys : List Str, ys.Perm zs ∧ sortD (zs.map .str) = ys.map .str ∧ ys.Pairwise Sl := by
  refine ⟨zs.mergeSort fun a b => dle (.str a) (.str b), List.mergeSort_perm _ _, ?_, ?_⟩
  · unfold sortD
    rw [List.map_mergeSort (s := dle) (f := PyData.str) (fun a _ b _ => rfl)]
  · have p := List.pairwise_mergeSort (le := fun a b : Str => dle (.str a) (.str b)) (fun a b c h1 h2 => by
      simp only [dle_str, decide_eq_true_eq] at *
      exact List.le_trans h1 h2) (fun a b => by
      simp only [dle_str, Bool.or_eq_true, decide_eq_true_eq]
      exact List.le_total _ _) zs
    have n : (zs.mergeSort fun a b => dle (.str a) (.str b)).Nodup := (List.mergeSort_perm _ _).nodup_iff.mpr nd
    refine (List.Pairwise.and p n).imp fun {a b} ⟨h1, h2⟩ => ?_
    rw [dle_str, decide_eq_true_eq] at h1
    unfold Sl
    by_cases h : a.cps.toList < b.cps.toList
    · exact h
    · exact absurd (str_ext (List.le_antisymm h1 (List.not_lt.mp h))) h2
end Fm

set_option Elab.async false
set_option linter.all false
set_option maxRecDepth 100000
set_option maxHeartbeats 4000000
/-! Wx2: lists turned, tuples cut. -/
namespace Wv
open PySem PySem.Spec PyProof.Rows L2 Wb
theorem dpAll_rev {K : PySem.W.Frag} {B : Hp} : ∀ {vs : List V} {ds : List PyData}, DpAll K B vs ds → DpAll K B vs.reverse ds.reverse
  | _, _, .nil => .nil
  | _, _, .cons h t => by
    rw [List.reverse_cons, List.reverse_cons]
    exact dpAll_app (dpAll_rev t) (.cons h .nil)
section
variable {K : PySem.W.Frag} {σ : L2.St} {B H : Hp} {te : TE}
theorem De.revL {ds : List PyData} (h : De te σ B (dat K (.list ds))) : De (tRevL K te) σ B (dat K (.list ds.reverse)) := fun B1 H s1 s2 Q q => h B1 H s1 s2 _ fun v B2 H2 e hv => by
  obtain ⟨p, xs, rfl, hs, hR⟩ := dat_lstR hv
  exact ⟨p, xs, rfl, e.bh.seq hs, fun p2 hp2 => q _ _ _ (e.trans (Ext.new e.bh hp2)) (.lst (SqL.of upd_same) (dpMonoAll (new_same (e.bh.free hp2)) _ _ (dpAll_rev (allR_dp hR))))⟩
theorem De.slT {ds : List PyData} {tl th : TO} {lo hi : Option Int} (h : De te σ B (dat K (.tuple ds))) (h1 : Do tl σ B lo) (h2 : Do th σ B hi) : De (L2.tSl (rSlA K) te tl th) σ B (dat K (.tuple (cutA ds lo hi))) :=
  .sl h h1 h2 fun x B1 H s1 s2 hx Q q => by
    have hx0 := hx
    obtain ⟨a, xs, rfl, hs, hR⟩ := dat_tupR hx
    have g := allR_dp hR
    have len : xs.length = ds.length := dpAll_len g
    refine ⟨a, xs, rfl, seqT s2 hs, fun hw => q _ B1 H (.refl s2) ?_, fun _ p hp => q _ (upd B1 p (.tup (cutV xs lo hi))) _ (.new s2 hp) ?_⟩
    · have : cutA ds lo hi = ds := by
        unfold cutA
        rw [← len, hw.1, hw.2, List.drop_zero, Nat.sub_zero, len]
        exact List.take_length
      rw [this]
      exact hx0
    · refine .tup (SqT.of upd_same) (dpMonoAll (new_same (s2.free hp)) _ _ ?_)
      unfold cutV cutA
      rw [len]
      exact dpAll_take _ (dpAll_drop _ g)
theorem cutA_init {α : Type} (xs : List α) (x : α) : cutA (xs ++ [x]) none (some (-1)) = xs := by
  unfold cutA
  rw [HT.sIx_none, Nat.sub_zero, List.drop_zero]
  have : HT.sIx (xs ++ [x]).length (xs ++ [x]).length (some (-1)) = xs.length := by
    show (if (-1 : Int) < 0 then ((-1 : Int) + (((xs ++ [x]).length : Nat) : Int)).toNat else min (-1 : Int).toNat (xs ++ [x]).length) = _
    rw [if_pos (by decide), List.length_append]
    show ((-1 : Int) + ((xs.length + 1 : Nat) : Int)).toNat = _
    omega
  rw [this, List.take_left']
  rfl
end
end Wv

set_option Elab.async false
set_option linter.all false
set_option maxRecDepth 100000
set_option maxHeartbeats 4000000
/-! Wx3: tuples of numbers compared, texts compared, is None. -/
namespace Wv
open PySem PySem.Spec PyProof.Rows L2 Wb
theorem lexAt_shift {e r : Nat → Bool} {z : Bool} : ∀ (k i : Nat), Ob.lexAt e r z (i + 1) k = Ob.lexAt (fun j => e (j + 1)) (fun j => r (j + 1)) z i k
  | 0, _ => rfl
  | k + 1, i => by
    rw [Ob.lexAt_succ, Ob.lexAt_succ, lexAt_shift k (i + 1)]
theorem lexAt_le : ∀ ns ms : List Int, Ob.lexAt (fun j => decide (ns.getD j 0 = ms.getD j 0)) (fun j => decide (ns.getD j 0 ≤ ms.getD j 0)) (decide (ns.length ≤ ms.length)) 0 (min ns.length ms.length) = decide (ns ≤ ms)
  | [], ms => by
    rw [List.length_nil, Nat.zero_min, Ob.lexAt_zero]
    simp
  | n :: ns, [] => by
    rw [List.length_nil, Nat.min_zero, Ob.lexAt_zero]
    simp
  | n :: ns, m :: ms => by
    have ih := lexAt_le ns ms
    rw [List.length_cons, List.length_cons, Nat.succ_min_succ, Ob.lexAt_succ, lexAt_shift]
    simp only [List.getD_cons_zero, List.getD_cons_succ, Nat.add_le_add_iff_right]
    rw [ih]
    by_cases h : n = m
    · subst h
      simp [List.cons_le_cons_iff]
    · have : (n :: ns ≤ m :: ms) ↔ n ≤ m := by
        rw [List.cons_le_cons_iff]
        constructor
        · rintro (h1 | h1)
          · omega
          · exact absurd h1.1 h
        · intro h1
          exact .inl (by omega)
      simp [h, this]
section
variable {K : PySem.W.Frag} {σ : L2.St} {B H : Hp} {te ta : TE}
theorem s_skip' {tt : TT} {t : TS} {D : Ends} (h : Dt tt σ B false) (hB : Same B H) (k : ∀ B' H', Ext B H B' H' → D.nx σ H') : tIfS tt t tNext D σ H := s_if h hB (fun z => nomatch z) fun _ => k
theorem ints_vals {K : PySem.W.Frag} {B : Hp} : ∀ {w : List Int} {xs : List V}, DpAll K B xs (w.map .int) → xs = w.map V.int
  | [], _, .nil => rfl
  | i :: w, _, .cons h t => by
    cases h
    rw [List.map_cons, ints_vals t]
theorem Rv.leT {a b : List Int} : Rv (rLeT K) B (dat K (.tuple (a.map .int))) (dat K (.tuple (b.map .int))) (dat K (.bool (decide (a ≤ b)))) := fun x y B1 H _ s2 hx hy Q q => by
  cases hx with
  | tup hs hd =>
    cases hy with
    | tup hs2 hd2 =>
      refine ⟨_, _, a, b, rfl, rfl, ints_vals hd ▸ seqT s2 hs, ints_vals hd2 ▸ seqT s2 hs2, ?_⟩
      rw [lexAt_le]
      exact q _ B1 H (.refl s2) (.bl _)
theorem Rv.gtS {a b : Str} : Rv (fun x y H Q => ∃ i j, x = .str i ∧ y = .str j ∧ Q (.bl (decide (j.cps.toList < i.cps.toList))) H) B (dat K (.str a)) (dat K (.str b)) (dat K (.bool (decide (b.cps.toList < a.cps.toList)))) := fun x y B1 H _ s2 hx hy Q q =>
  ⟨a, b, dat_str hx, dat_str hy, q _ B1 H (.refl s2) (.bl _)⟩
theorem Rv.isNone : Rv (fun x y H Q => y = .non ∧ Q (.bl (decide (x = .non))) H) B (dat K .none) (dat K .none) (dat K (.bool true)) := fun x y B1 H _ s2 hx hy Q q => by
  cases hx
  cases hy
  exact ⟨rfl, q _ B1 H (.refl s2) (.bl _)⟩
end
end Wv

set_option Elab.async false
set_option linter.all false
set_option maxRecDepth 100000
set_option maxHeartbeats 4000000
/-! Wx4: a thing put into a list at a drawn place. -/
namespace Wv
open PySem PySem.Spec PyProof.Rows L2 Wb
abbrev rIns : V → List V → Hp → VK → Prop := fun x vs H Q => ∃ (l : Addr) (xs : List V) (i : Int) (y : V), x = .ref l ∧ vs = [.int i, y] ∧ H l = some (.lst xs) ∧ xs.length < sizeLine ∧ 0 ≤ i ∧ i < 2 ^ 63 ∧
    Q .non (upd H l (.lst (xs.take i.toNat ++ [y] ++ xs.drop i.toNat)))
section
variable {K : PySem.W.Frag} {σ : L2.St} {d c M : Addr} {B H : Hp} {E : XK} {i j n : Nat} {Q : VK}
theorem s_drop {te : TE} {rest : TS} {D : Ends} (h : te σ H fun _ H' => rest D σ H') : tSeq (tDrop te) rest D σ H := h
theorem s_dropE {te : TE} {D : Ends} (h : te σ H fun _ H' => D.nx σ H') : tDrop te D σ H := h
theorem c_insAny {xs : List V} {v : V} (L : Dl B H d c) (hd : σ[i]? = some (some (.ref d))) (hm : σ[j]? = some (some (.ref M))) (m : Ml d c B H M xs) (few : xs.length ≤ 1000) (hv : σ[n]? = some (some v))
    (k : ∀ (r : Nat) H', ExtD d c B H B H' → Ml d c B H' M xs → Q .non (upd H' M (.lst (xs.take r ++ [v] ++ xs.drop r)))) :
    tBM K "list" rIns (tVar j) (tCons (tCall spAny [] E (tCons (tVar i) (tCons (tOp (rI0 fun i j => V.int (i + j)) (tCB (rLen K) (tCons (tVar j) tNil)) (tC (.int 1))) tNil))) (tCons (tVar n) tNil)) σ H Q :=
  ⟨.ref M, hm, .inl ⟨rfl, xs, SqL.of m.at_⟩, .ref d, hd, .ref M, hm, .ref M, xs.length, rfl, .inl ⟨xs, SqL.of m.at_, rfl⟩, _, _, rfl, rfl, d, c, (xs.length : Int) + 1, rfl, L.deal, by omega, by omega, fun r H2 r0 r1 D2 S2 => by
    have e : ExtD d c B H B H2 := .draw L D2 S2
    have m' := m.ext e
    have := k r.toNat H2 e m'
    exact ⟨v, hv, M, xs, r, v, rfl, rfl, m'.at_, by rw [sizeLine_eq]; omega, r0, by omega, this⟩⟩
end
end Wv

set_option Elab.async false
set_option linter.all false
set_option maxRecDepth 100000
set_option maxHeartbeats 4000000
/-! Wx5: tests while the deal is drawn from, whose outcome is told. -/
namespace Wv
open PySem PySem.Spec PyProof.Rows L2 Wb
def Dwt (tt : TT) (σ : L2.St) (d c : Addr) (B : Hp) (b : Bool) : Prop := ∀ B1 H, Same B B1 → Dl B1 H d c → ∀ Q : Bool → Hp → Prop, (∀ B' H', ExtD d c B1 H B' H' → Q b H') → tt σ H Q
section
variable {K : PySem.W.Frag} {σ : L2.St} {d c : Addr} {B B' H : Hp} {te ta tb : TE} {tt tu : TT} {R S T : Rel} {D : Ends} {rest t u : TS}
theorem Dwt.of {b : Bool} (h : Dt tt σ B b) : Dwt tt σ d c B b := fun B1 H s L Q k => h B1 H s L.bh Q fun B' H' e => k B' H' (.of L e)
theorem Dwt.mono {b : Bool} (s : Same B B') (h : Dwt tt σ d c B b) : Dwt tt σ d c B' b := fun B1 H s1 L => h B1 H (s.trans s1) L
theorem Dwt.test {b : Bool} (h : Dw te σ d c B (dat K (.bool b))) : Dwt (tTest te) σ d c B b := fun B1 H s L Q k => h B1 H s L _ fun v B' H' e hv => ⟨b, dat_bl hv, k B' H' e⟩
theorem Dwt.tB {b : Bool} (h : Dw te σ d c B (dat K (.bool b))) : Dwt (tB te) σ d c B b := fun B1 H s L Q k => h B1 H s L _ fun v B' H' e hv => ⟨b, dat_bl hv, k B' H' e⟩
theorem Dwt.not {a : Bool} (h : Dwt tt σ d c B a) : Dwt (tNot tt) σ d c B (!a) := fun B1 H s L Q k => h B1 H s L _ k
theorem Dwt.eq {a b : Bool} (h : Dwt tt σ d c B a) (z : a = b) : Dwt tt σ d c B b := z ▸ h
theorem Dwt.or {a b : Bool} (h1 : Dwt tt σ d c B a) (h2 : a = false → Dwt tu σ d c B b) : Dwt (tOr tt tu) σ d c B (a || b) := fun B1 H s L Q k => h1 B1 H s L _ fun B2 H2 e => by
  cases a with
  | true => exact k B2 H2 e
  | false => exact h2 rfl B2 H2 (s.trans e.bb) e.dl Q fun B3 H3 e3 => k B3 H3 (e.trans L e3)
theorem s_skipW (L : Dl B H d c) (h : Dwt tt σ d c B false) (k : ∀ B' H', ExtD d c B H B' H' → rest D σ H') : tSeq (tIfS tt t tNext) rest D σ H := h B H (Same.refl _) L _ fun B' H' e => k B' H' e
end
end Wv

set_option Elab.async false
set_option linter.all false
set_option maxRecDepth 100000
set_option maxHeartbeats 4000000
/-! K30t: any values as forms, told of data. -/
namespace K30
open PySem PySem.Spec PyProof.Rows L2 Wb Wv Fm
/-- an integer, no bool, in a stretch -/
def isInD (d : PyData) (lo hi : Int) : Bool := match d with
  | .int i => decide (lo ≤ i) && decide (i ≤ hi)
  | _ => false
/-- a name by its signs -/
def isNm2 (z : Str) : Bool := decide (1 ≤ z.length ∧ z.length ≤ 8) && z.cps.toList.all fun c => decide (97 ≤ c) && decide (c ≤ 122)
theorem small_alpha : ∀ c, c < 128 → (Unicode.isAlpha c && !(Unicode.isUpper c || Unicode.isTitle c)) = (decide (97 ≤ c) && decide (c ≤ 122)) := by
  intro c h
  have : ∀ c ∈ List.range 128, (Unicode.isAlpha c && !(Unicode.isUpper c || Unicode.isTitle c)) = (decide (97 ≤ c) && decide (c ≤ 122)) := by decide +kernel
  exact this c (List.mem_range.mpr h)
theorem nm_eq (z : Str) : isNmS z = isNm2 z := by
  unfold isNmS isNm2
  by_cases hl : 1 ≤ z.length ∧ z.length ≤ 8
  · rw [decide_eq_true hl, Bool.true_and, Bool.true_and]
    by_cases hs : ∀ c ∈ z.cps.toList, 97 ≤ c ∧ c ≤ 122
    · have nm : NmL 1 8 z := ⟨hl.1, hl.2, hs⟩
      rw [nm.ascii, nm.alpha (by decide), nm.lower (by decide)]
      symm
      rw [Bool.and_self, Bool.and_self, List.all_eq_true]
      intro c hc
      have := hs c hc
      rw [decide_eq_true this.1, decide_eq_true this.2]
      rfl
    · have r : (z.cps.toList.all fun c => decide (97 ≤ c) && decide (c ≤ 122)) = false := by
        rw [Bool.eq_false_iff]
        intro h
        rw [List.all_eq_true] at h
        exact hs fun c hc => by
          have := h c hc
          rw [Bool.and_eq_true, decide_eq_true_eq, decide_eq_true_eq] at this
          exact this
      rw [r, Bool.eq_false_iff]
      intro h
      rw [Bool.and_eq_true, Bool.and_eq_true] at h
      obtain ⟨h1, h2, h3⟩ := h
      unfold Txt.isascii at h1
      unfold Txt.isalpha at h2
      unfold Txt.islower at h3
      rw [← Array.all_toList, List.all_eq_true] at h1
      rw [Bool.and_eq_true, ← Array.all_toList, List.all_eq_true] at h2
      rw [Bool.and_eq_true, Bool.not_eq_true', ← Array.any_toList (p := fun c => Unicode.isUpper c || Unicode.isTitle c), List.any_eq_false] at h3
      exact hs fun c hc => by
        have a := of_decide_eq_true (h1 c hc)
        have b := h2.2 c hc
        have d := h3.2 c hc
        have e := small_alpha c a
        rw [b, Bool.true_and] at e
        have d : (Unicode.isUpper c || Unicode.isTitle c) = false := by simpa using d
        rw [d, Bool.not_false] at e
        have e := e.symm
        rw [Bool.and_eq_true, decide_eq_true_eq, decide_eq_true_eq] at e
        exact e
  · rw [decide_eq_false hl, Bool.false_and, Bool.false_and]
/-- a question, by itself -/
def okP (d : PyData) : Bool := match d with
  | .tuple [x, y] => isNmD x && isInD y 2 9
  | _ => false
def nmOf (d : PyData) : Str := match d with
  | .tuple (.str z :: _) => z
  | _ => ⟨#[]⟩
theorem okP_form {d : PyData} (h : okP d = true) : ∃ z i, d = .tuple [.str z, .int i] ∧ isNmS z = true ∧ 2 ≤ i ∧ i ≤ 9 := by
  unfold okP at h
  split at h
  · rename_i x y
    rw [Bool.and_eq_true] at h
    obtain ⟨h1, h2⟩ := h
    cases x with
    | str z =>
      cases y with
      | int i =>
        unfold isInD at h2
        rw [Bool.and_eq_true, decide_eq_true_eq, decide_eq_true_eq] at h2
        exact ⟨z, i, rfl, h1, h2.1, h2.2⟩
      | none => cases h2
      | bool b => cases h2
      | str b => cases h2
      | list b => cases h2
      | tuple b => cases h2
      | dict b => cases h2
    | none => cases h1
    | bool b => cases h1
    | int b => cases h1
    | list b => cases h1
    | tuple b => cases h1
    | dict b => cases h1
  · cases h
/-- whether a question may stand at a place -/
def okAt (ds : List PyData) (i : Nat) : Bool := match ds[i]? with
  | some d => okP d && (decide (i = 0) || (match ds[i - 1]? with | some p => decide ((nmOf p).cps.toList < (nmOf d).cps.toList) | none => false))
  | none => false
/-- the first that may not stand where it stands -/
def faultN (ds : List PyData) : Option Nat := (List.range ds.length).find? fun i => !okAt ds i
theorem find_first {p : Nat → Bool} {n i : Nat} (h : i < n) (hi : p i = true) (lt : ∀ j, j < i → p j = false) : (List.range n).find? p = some i := by
  rw [List.find?_eq_some_iff_append]
  refine ⟨hi, List.range i, (List.range' (i + 1) (n - i - 1)), ?_, fun a ha => by rw [lt a (List.mem_range.mp ha)]; rfl⟩
  rw [List.range_eq_range', List.range_eq_range']
  have : n = i + (n - i) := by omega
  conv => lhs; rw [this]
  rw [← List.range'_append_1, Nat.zero_add]
  congr 1
  have : n - i = (n - i - 1) + 1 := by omega
  rw [this, List.range'_succ]
  rfl
theorem fault_at {ds : List PyData} {i : Nat} (h : i < ds.length) (bad : okAt ds i = false) (lt : ∀ j, j < i → okAt ds j = true) : faultN ds = some i := find_first h (by rw [bad]; rfl) fun j hj => by rw [lt j hj]; rfl
theorem fault_none {ds : List PyData} (all : ∀ j, j < ds.length → okAt ds j = true) : faultN ds = none := by
  unfold faultN
  rw [List.find?_eq_none]
  intro j hj
  rw [all j (List.mem_range.mp hj)]
  decide
/-- what is told of any value's questions -/
def faultD (d : PyData) : PyData := match d with
  | .tuple ds => if 1 ≤ ds.length ∧ ds.length ≤ 8 then (match faultN ds with | some i => .int (i : Int) | none => .none) else .int (-1)
  | _ => .int (-1)
theorem okAt_ok {ds : List PyData} {i : Nat} {d : PyData} (hd : ds[i]? = some d) (h : okAt ds i = true) : okP d = true := by
  unfold okAt at h
  rw [hd] at h
  exact (Bool.and_eq_true _ _ ▸ h).1
theorem okAt_zero {ds : List PyData} {d : PyData} (hd : ds[0]? = some d) : okAt ds 0 = okP d := by
  unfold okAt
  rw [hd]
  simp
theorem okAt_succ {ds : List PyData} {i : Nat} {p d : PyData} (hp : ds[i]? = some p) (hd : ds[i + 1]? = some d) : okAt ds (i + 1) = (okP d && decide ((nmOf p).cps.toList < (nmOf d).cps.toList)) := by
  unfold okAt
  rw [hd, Nat.add_sub_cancel, hp]
  simp
/-- a form, as its questions tell -/
structure Good (qs : Qs) : Prop where
  pos : 1 ≤ qs.length
  few : qs.length ≤ 8
  two : ∀ q ∈ qs, 2 ≤ q.2 ∧ q.2 ≤ 9
  nm : ∀ z ∈ Fm.names qs, NmL 1 8 z
  asc : (Fm.names qs).Pairwise Sl
theorem good_of {d : PyData} (h : faultD d = .none) : ∃ qs, d = qsD qs ∧ Good qs := by
  unfold faultD at h
  split at h
  · rename_i ds
    by_cases hl : 1 ≤ ds.length ∧ ds.length ≤ 8
    · rw [if_pos hl] at h
      have fn : faultN ds = none := by
        cases e : faultN ds with
        | none => rfl
        | some i => rw [e] at h; cases h
      have all : ∀ i, i < ds.length → okAt ds i = true := fun i hi => by
        unfold faultN at fn
        rw [List.find?_eq_none] at fn
        have := fn i (List.mem_range.mpr hi)
        simpa using this
      have okd : ∀ d ∈ ds, okP d = true := fun d hd => by
        obtain ⟨i, hi, rfl⟩ := List.mem_iff_getElem.mp hd
        exact okAt_ok (List.getElem?_eq_getElem hi) (all i hi)
      have ex : ∀ {ds : List PyData}, (∀ d ∈ ds, okP d = true) → ∃ qs : Qs, ds = qs.map encQ ∧ ∀ q ∈ qs, isNmS q.1 = true ∧ 2 ≤ q.2 ∧ q.2 ≤ 9 := fun {ds} => by
        induction ds with
        | nil => exact fun _ => ⟨[], rfl, fun q h => nomatch h⟩
        | cons d ds ih =>
          intro h
          obtain ⟨z, i, rfl, h1, h2, h3⟩ := okP_form (h d List.mem_cons_self)
          obtain ⟨qs, rfl, hq⟩ := ih fun d hd => h d (List.mem_cons_of_mem _ hd)
          refine ⟨(z, i.toNat) :: qs, by rw [List.map_cons]; unfold encQ; rw [show ((i.toNat : Nat) : Int) = i by omega], fun q hq2 => ?_⟩
          rcases List.mem_cons.mp hq2 with rfl | hq2
          · exact ⟨h1, by omega, by omega⟩
          · exact hq q hq2
      obtain ⟨qs, rfl, hq⟩ := ex okd
      rw [List.length_map] at hl all
      have nm : ∀ q ∈ qs, NmL 1 8 q.1 := fun q h => by
        have := (hq q h).1
        rw [nm_eq] at this
        unfold isNm2 at this
        rw [Bool.and_eq_true, decide_eq_true_eq, List.all_eq_true] at this
        exact ⟨this.1.1, this.1.2, fun c hc => by have := this.2 c hc; rw [Bool.and_eq_true, decide_eq_true_eq, decide_eq_true_eq] at this; exact this⟩
      refine ⟨qs, rfl, hl.1, hl.2, fun q h => (hq q h).2, fun z hz => ?_, ?_⟩
      · obtain ⟨q, h, rfl⟩ := List.mem_map.mp hz
        exact nm q h
      · have step : ∀ i (h : i + 1 < qs.length), Sl (qs[i]'(by omega)).1 qs[i + 1].1 := fun i h => by
          have a := all (i + 1) h
          rw [okAt_succ (p := encQ (qs[i]'(by omega))) (d := encQ qs[i + 1]) (by rw [List.getElem?_map, List.getElem?_eq_getElem (by omega)]; rfl) (by rw [List.getElem?_map, List.getElem?_eq_getElem h]; rfl), Bool.and_eq_true, decide_eq_true_eq] at a
          exact a.2
        unfold Fm.names
        rw [List.pairwise_map, List.pairwise_iff_getElem]
        intro i j hi hj ij
        have go : ∀ k, ∀ h : i + k + 1 < qs.length, Sl (qs[i]'hi).1 (qs[i + k + 1]).1 := fun k => by
          induction k with
          | zero => exact fun h => step i h
          | succ k ih => exact fun h => List.lt_trans (ih (by omega)) (step (i + k + 1) h)
        have := go (j - i - 1) (by omega)
        have e : i + (j - i - 1) + 1 = j := by omega
        simpa only [e] using this
    · rw [if_neg hl] at h
      cases h
  · cases h
end K30

set_option Elab.async false
set_option linter.all false
set_option maxRecDepth 100000
set_option maxHeartbeats 4000000
/-! K30b: the program, of any value. -/
namespace K30
open PySem PySem.Spec PyProof.Rows L2 Wb Wv Fm
/-- what isinstance asks of a class of one's own -/
structure IsiC (K : PySem.W.Frag) (C : Addr) : Prop where
  ha : PySem.W.findIn K (.ref C) "__class__" = some (some (.builtin "object.__class__"))
  hn : PySem.W.specialIn K (.builtin "object.__class__") "__get__" = some (some (.builtin "getset_descriptor.__get__"))
  ht : PySem.W.takesIn K (.builtin "object.__class__") = some true
/-- .. and that no built-in class is it -/
def NotC (K : PySem.W.Frag) (C : Addr) : Prop := ∀ t ∈ ["NoneType", "bool", "int", "str", "list", "tuple", "dict"], PySem.W.kitOne K (.type t) (.ref C) = some false
theorem isiC {K : PySem.W.Frag} {σ : L2.St} {B : Hp} {te : TE} {C : Addr} {fs : List (Str × Rel)} (c : Cls K C) (t : IsiC K C) (h : De te σ B (insR C fs)) : De (tCB (rIsi K) (tCons te (tCons (tC (.ref C)) tNil))) σ B (dat K (.bool true)) := fun B1 H s1 s2 Q q => h B1 H s1 s2 _ fun v B2 H2 e hv => by
  obtain ⟨a, dx, us, rfl, ha, _⟩ := hv
  refine ⟨_, _, .ref C, .ref C, true, rfl, .own C, .base (.ins (e.bh _ _ ha) c t.ha t.hn t.ht (mro_obj c)), ?_, q _ B2 H2 e (.bl true)⟩
  unfold PySem.W.kitOne
  rw [if_pos (by simp)]
theorem isiN {K : PySem.W.Frag} {σ : L2.St} {B : Hp} {te : TE} {C : Addr} {d : PyData} (n : NotC K C) (h : De te σ B (dat K d)) : De (tCB (rIsi K) (tCons te (tCons (tC (.ref C)) tNil))) σ B (dat K (.bool false)) := fun B1 H s1 s2 Q q => h B1 H s1 s2 _ fun v B2 H2 e hv =>
  ⟨v, .ref C, _, _, false, rfl, .own C, ty_dat (dpMono e.bh _ _ hv), n _ (tyN_mem d), q _ B2 H2 e (Dp.bl _)⟩
def formD (K : PySem.W.Frag) (C : Addr) (d : PyData) : Rel := insR C [("questions", dat K d)]
instance {K : PySem.W.Frag} {C : Addr} {d : PyData} : Mo (formD K C d) := by unfold formD; infer_instance
/-- a Form of anything, or anything -/
def valR (K : PySem.W.Frag) (C : Addr) (b : Bool) (d : PyData) : Rel := if b then formD K C d else dat K d
instance {K : PySem.W.Frag} {C : Addr} {b : Bool} {d : PyData} : Mo (valR K C b d) := by
  unfold valR
  cases b
  · exact inferInstanceAs (Mo (dat K d))
  · exact inferInstanceAs (Mo (formD K C d))
def valFault (b : Bool) (d : PyData) : PyData := if b then faultD d else .int (-1)
def Short (x : PyData) : Prop := ∀ y l, x = .tuple (y :: l) → ∀ z, y = .str z → z.length ≤ sizeLine
def Shorts (d : PyData) : Prop := ∀ ds, d = .tuple ds → ∀ x ∈ ds, Short x
def isNoneD (d : PyData) : Bool := match d with
  | .none => true
  | _ => false
abbrev sp_isMany (K : PySem.W.Frag) : Sp := Pf (α := PyData) (fun d => [dat K d]) (fun _ => True) (fun d => dat K (.bool (isInD d 2 9)))
abbrev sp_mayFollow (K : PySem.W.Frag) : Sp := Pf (α := List PyData × Nat × PyData) (fun a => [dat K (.tuple (a.1.take a.2.1)), dat K a.2.2]) (fun a => a.1[a.2.1]? = some a.2.2 ∧ Short a.2.2 ∧ ∀ j, j < a.2.1 → okAt a.1 j = true) (fun a => dat K (.bool (okAt a.1 a.2.1)))
abbrev sp_formFault (K : PySem.W.Frag) (C : Addr) : Sp := Pf (α := Bool × PyData) (fun a => [valR K C a.1 a.2]) (fun a => Shorts a.2) (fun a => dat K (valFault a.1 a.2))
abbrev sp_isForm (K : PySem.W.Frag) (C : Addr) : Sp := Pf (α := Bool × PyData) (fun a => [valR K C a.1 a.2]) (fun a => Shorts a.2) (fun a => dat K (.bool (isNoneD (valFault a.1 a.2))))
theorem fault_kinds (b : Bool) (d : PyData) : valFault b d = .none ∨ ∃ i, valFault b d = .int i := by
  unfold valFault faultD
  cases b
  · exact .inr ⟨-1, rfl⟩
  · simp only [if_true]
    split
    · split
      · split
        · exact .inr ⟨_, rfl⟩
        · exact .inl rfl
      · exact .inr ⟨_, rfl⟩
    · exact .inr ⟨_, rfl⟩
theorem isTup2 {d : PyData} (h : isTupD d 2 = true) : ∃ x y, d = .tuple [x, y] := by
  unfold isTupD at h
  split at h
  · rename_i ds
    have h := of_decide_eq_true h
    match ds, h with
    | [x, y], _ => exact ⟨x, y, rfl⟩
  · cases h
theorem okP_not {d : PyData} (h : isTupD d 2 = false) : okP d = false := by
  unfold okP
  split
  · cases h
  · rfl
theorem okAt_bad {ds : List PyData} {i : Nat} {d : PyData} (hd : ds[i]? = some d) (h : okP d = false) : okAt ds i = false := by
  unfold okAt
  rw [hd]
  simp [h]
section
variable {P : Program} {w : World} {K : PySem.W.Frag} {mg : Str → Option Value} {base : Heap} {C_Form C_InvalidForm C_InvalidBook C_InvalidSheets C_BlankError : Addr} {t_MOST_QUESTIONS : Tok}
theorem Rv.isNone {B : Hp} {d : PyData} : Rv (fun x y H Q => y = .non ∧ Q (.bl (decide (x = .non))) H) B (dat K d) (dat K .none) (dat K (.bool (isNoneD d))) := fun x y B1 H _ s2 hx hy Q q => by
  have ey : y = .non := by cases hy; rfl
  refine ⟨ey, ?_⟩
  have e : decide (x = V.non) = isNoneD d := by cases hx <;> rfl
  rw [e]
  exact q _ B1 H (.refl s2) (.bl _)
theorem Rv.notNone {B : Hp} {d : PyData} : Rv (fun x y H Q => y = .non ∧ Q (.bl (!decide (x = .non))) H) B (dat K d) (dat K .none) (dat K (.bool (!isNoneD d))) := fun x y B1 H _ s2 hx hy Q q => by
  have ey : y = .non := by cases hy; rfl
  refine ⟨ey, ?_⟩
  have e : (!decide (x = V.non)) = !isNoneD d := by cases hx <;> rfl
  rw [e]
  exact q _ B1 H (.refl s2) (.bl _)
theorem fldD {σ : L2.St} {B : Hp} {te : TE} {d : PyData} (c : CalC P w K mg base "Form" C_Form ["questions"]) (h : De te σ B (formD K C_Form d)) : De (tFld K te "questions") σ B (dat K d) := De.fld h c.c (c.na "questions" (by simp)) rfl
theorem De.isInt {σ : L2.St} {B : Hp} {te : TE} {E : XK} {d : PyData} (h : De te σ B (dat K d)) : De (tCall (sp_isInt K) [] E (tCons te tNil)) σ B (dat K (.bool (isIntD d))) := De.call (args := fun d => [dat K d]) (res := fun d => dat K (.bool (isIntD d))) d (.one h) trivial
theorem De.isTup {σ : L2.St} {B : Hp} {te tn : TE} {E : XK} {d : PyData} {n : Int} (h : De te σ B (dat K d)) (hn : De tn σ B (dat K (.int n))) : De (tCall (sp_isTupleOf K) [] E (tCons te (tCons tn tNil))) σ B (dat K (.bool (isTupD d n))) :=
  De.call (args := fun a : PyData × Int => [dat K a.1, dat K (.int a.2)]) (res := fun a => dat K (.bool (isTupD a.1 a.2))) (d, n) (.cons h (.cons hn .nil)) trivial
theorem sc_isMany : FnScope ["value"] ["value"] (defScope s_isMany) := ⟨rfl, rfl, rfl, by decide +kernel, rfl, by decide +kernel, by decide +kernel⟩
theorem ok_isMany (D : Def K mg "is_many" s_isMany ["value"]) (C_isInt : Cal P w K mg base CX0 1 "is_int" s_isInt ["value"] (sp_isInt K)) : Cal P w K mg base CX0 2 "is_many" s_isMany ["value"] (sp_isMany K) := by
  refine D.ok sc_isMany (fun vs H Q E h => ?_) (fun cdv f A outer s H vs Q E hr h => ?_)
  · exact pf_len h fun _ => rfl
  replace h := pf1 h
  obtain ⟨v, B, d, rfl, hB, hv, _, k⟩ := h
  refine ⟨_, (pss_one (ps_ret (pe_and (pe_cal C_isInt (hr.mono (by decide)) (by rfl) pass0 (pa_cons (pv 0) pa_nil)) (pe_one (pe_chain op_le op_le pe_int (pv 0) pe_int))))), ?_⟩
  have hv : dat K d B v := hv
  have k : ∀ (v : V) (B' H' : Hp), Ext B H B' H' → dat K (.bool (isInD d 2 9)) B' v → Q v H' := k
  cases hd : d with
  | int i =>
    subst hd
    exact s_ret (De.eq (De.andV (a := true) (De.isInt (.var hv rfl)) fun _ => De.chain (r := rI0 fun i j => V.bl (decide (i ≤ j))) (r' := rI0 fun i j => V.bl (decide (i ≤ j))) .int (.var hv rfl) Rv.I0b (fun _ => .int) fun _ => Rv.I0b) rfl) hB k
  | _ =>
    subst hd
    exact s_ret (De.andV (a := false) (b := false) (De.isInt (.var hv rfl)) fun z => nomatch z) hB k
theorem sc_mayFollow : FnScope ["ahead", "value"] ["ahead", "value"] (defScope s_mayFollow) := ⟨rfl, rfl, rfl, by decide +kernel, rfl, by decide +kernel, by decide +kernel⟩
theorem ok_mayFollow (D : Def K mg "may_follow" s_mayFollow ["ahead", "value"]) (C_isTupleOf : Cal P w K mg base CX0 1 "is_tuple_of" s_isTupleOf ["value", "many"] (sp_isTupleOf K)) (C_isName : Cal P w K mg base CX0 1 "is_name" s_isName ["value"] (sp_isName K)) (C_isMany : Cal P w K mg base CX0 2 "is_many" s_isMany ["value"] (sp_isMany K)) (n_len : mg "len" = none) : Cal P w K mg base CX0 3 "may_follow" s_mayFollow ["ahead", "value"] (sp_mayFollow K) := by
  refine D.ok sc_mayFollow (fun vs H Q E h => ?_) (fun cdv f A outer s H vs Q E hr h => ?_)
  · exact pf_len h fun _ => rfl
  replace h := pf2 h
  obtain ⟨v, v1, B, ⟨ds, i, d⟩, rfl, hB, hv, hv1, ⟨hd, sh, ok⟩, k⟩ := h
  refine ⟨_, (pss_cons (ps_if (PW.pt (pw_or (pt_not (pt_val (pe_cal C_isTupleOf (hr.mono (by decide)) (by rfl) pass0 (pa_cons (pv 1) (pa_cons pe_int pa_nil))))) (pw_or (pt_not (pt_val (pe_cal C_isName (hr.mono (by decide)) (by rfl) pass0 (pa_cons (pe_ix ix_tup (pv 1) pe_int (fun _ _ => rfl)) pa_nil)))) (pw_or1 (pt_not (pt_val (pe_cal C_isMany (hr.mono (by decide)) (by rfl) pass0 (pa_cons (pe_ix ix_tup (pv 1) pe_int (fun _ _ => rfl)) pa_nil)))))))) (pss_one (ps_ret pe_bl)) pss_nil)
    (pss_one (ps_ret (pe_or (pe_cmpR op_eq (pe_callB call_len (by rfl) n_len (by decide +kernel) (pa_cons (pv 0) pa_nil)) pe_int (nomark _)) (pe_one (pe_cmpR op_gt_str (pe_ix ix_tup (pv 1) pe_int (fun _ _ => rfl)) (pe_ix ix_tup (pe_ix ix_tup (pv 0) (pe_un un_neg pe_int) (fun _ _ => rfl)) pe_int (fun _ _ => rfl)) (nomark _))))))), ?_⟩
  have hv : dat K (.tuple (ds.take i)) B v := hv
  have hv1 : dat K d B v1 := hv1
  have hd : ds[i]? = some d := hd
  have sh : Short d := sh
  have ok : ∀ j, j < i → okAt ds j = true := ok
  have il : i < ds.length := (List.getElem?_eq_some_iff.mp hd).1
  have k : ∀ (v : V) (B' H' : Hp), Ext B H B' H' → dat K (.bool (okAt ds i)) B' v → Q v H' := k
  cases ht : isTupD d 2 with
  | false =>
    refine s_ifS (b := true) (Dt.or (a := true) (b := true) (Dt.eq (Dt.not (Dt.tB (De.isTup (.var hv1 rfl) .int))) (by rw [ht]; rfl)) fun z => nomatch z) hB (fun _ B1 H1 e1 => ?_) fun z => nomatch z
    rw [okAt_bad hd (okP_not ht)] at k
    exact s_ret (De.bl (K := K)) e1.bh fun v B' H' e h => k v B' H' (e1.trans e) h
  | true =>
    obtain ⟨x, y, rfl⟩ := isTup2 ht
    have okd : okP (.tuple [x, y]) = (isNmD x && isInD y 2 9) := rfl
    refine s_ifS (b := !okP (.tuple [x, y])) (Dt.eq (Dt.or (a := false) (b := !isNmD x || !isInD y 2 9) (Dt.eq (Dt.not (Dt.tB (De.isTup (.var hv1 rfl) .int))) rfl) fun _ => Dt.or (Dt.not (Dt.tB (De.call (args := fun d => [dat K d]) (res := fun d => dat K (.bool (isNmD d))) x (.one (De.op (r := rIxT K) (.var hv1 rfl) .int (Rv.ixTD rfl))) (fun z hz => sh x [y] rfl z hz)))) fun _ => Dt.not (Dt.tB (De.call (args := fun d => [dat K d]) (res := fun d => dat K (.bool (isInD d 2 9))) y (.one (De.op (r := rIxT K) (.var hv1 rfl) .int (Rv.ixTD rfl))) trivial))) (by rw [okd, Bool.not_and]; rfl)) hB (fun t B1 H1 e1 => ?_) fun f B1 H1 e1 => ?_
    · rw [okAt_bad hd (by simpa using t)] at k
      exact s_ret (De.bl (K := K)) e1.bh fun v B' H' e h => k v B' H' (e1.trans e) h
    · have okt : okP (.tuple [x, y]) = true := by simpa using f
      obtain ⟨z, m, e, _⟩ := okP_form okt
      cases e
      have hw := Mo.mo e1.bb hv
      have hw1 := Mo.mo e1.bb hv1
      cases i with
      | zero =>
        rw [okAt_zero hd, okt] at k
        exact s_ret (De.orV (a := true) (b := true) (De.op (r := rEq) (.cb (.one (.var hw rfl)) rc_lenT) .int Rv.eqI) fun z => nomatch z) e1.bh fun v B' H' e h => k v B' H' (e1.trans e) h
      | succ j =>
        have hp : ds[j]? = some ds[j] := List.getElem?_eq_getElem (by omega)
        obtain ⟨z', m', ep, _⟩ := okP_form (okAt_ok hp (ok j (Nat.lt_succ_self j)))
        rw [okAt_succ hp hd, okt, Bool.true_and, ep] at k
        have lt : ds.take (j + 1) = ds.take j ++ [.tuple [.str z', .int m']] := by rw [List.take_succ, hp, ep]; rfl
        rw [lt] at hw
        refine s_ret (De.eq (De.orV (a := false) (b := decide (z'.cps.toList < z.cps.toList)) (De.eq (De.op (r := rEq) (.cb (.one (.var hw rfl)) rc_lenT) .int Rv.eqI) (by rw [List.length_append]; simp; omega)) fun _ => De.op (De.op (r := rIxT K) (.var hw1 rfl) .int (Rv.ixTD rfl)) (De.op (r := rIxT K) (De.op (r := rIxT K) (.var hw rfl) (De.negI .int) (Rv.ixTD (atI_last _ _))) .int (Rv.ixTD rfl)) Rv.gtS) rfl) e1.bh fun v B' H' e h => k v B' H' (e1.trans e) h
theorem sc_formFault : FnScope ["value", "at", "question"] ["value"] (defScope s_formFault) := ⟨rfl, rfl, rfl, by decide +kernel, rfl, by decide +kernel, by decide +kernel⟩
theorem ok_formFault (D : Def K mg "form_fault" s_formFault ["value"]) (K_Form : CalC P w K mg base "Form" C_Form ["questions"]) (n_isinstance : mg "isinstance" = none) (n_tuple : mg "tuple" = none) (n_len : mg "len" = none) (m_MOST_QUESTIONS : mg "MOST_QUESTIONS" = some (.int 8 t_MOST_QUESTIONS)) (n_enumerate : mg "enumerate" = none) (C_mayFollow : Cal P w K mg base CX0 3 "may_follow" s_mayFollow ["ahead", "value"] (sp_mayFollow K)) (t_Form : IsiC K C_Form) (u_Form : NotC K C_Form) : Cal P w K mg base CX0 4 "form_fault" s_formFault ["value"] (sp_formFault K C_Form) := by
  refine D.ok sc_formFault (fun vs H Q E h => ?_) (fun cdv f A outer s H vs Q E hr h => ?_)
  · exact pf_len h fun _ => rfl
  replace h := pf1 h
  obtain ⟨v, B, ⟨b, d⟩, rfl, hB, hv, sh, k⟩ := h
  refine ⟨_, (pss_cons (ps_if (PW.pt (pw_or (pt_not (pt_val (pe_callB call_isi (by rfl) n_isinstance (by decide +kernel) (pa_cons (pv 0) (pa_cons (pe_glob (by rfl) K_Form.g (show RelV (.ref C_Form) (.ref C_Form) from rfl)) pa_nil))))) (pw_or1 (pt_not (pt_val (pe_callB call_isi (by rfl) n_isinstance (by decide +kernel) (pa_cons (pe_fld (pv 0) rfl) (pa_cons (pe_bltn (by rfl) n_tuple (by decide +kernel) (show RelV (.ty "tuple") (.type "tuple") from rfl)) pa_nil)))))))) (pss_one (ps_ret (pe_un un_neg pe_int))) pss_nil)
    (pss_cons (ps_if (pt_not (pt_chain op_le op_le pe_int (pe_callB call_len (by rfl) n_len (by decide +kernel) (pa_cons (pe_fld (pv 0) rfl) pa_nil)) (pe_glob (by rfl) m_MOST_QUESTIONS (show RelV (.int 8) (.int 8 _) from ⟨_, rfl⟩)))) (pss_one (ps_ret (pe_un un_neg pe_int))) pss_nil)
    (pss_cons (ps_for PassesOwn.never rfl (pi_enumT (by rfl) n_enumerate (pa_cons (pe_fld (pv 0) rfl) pa_nil)) (pg_tup rfl (pgs_cons (pg_name (i := 1) sc_formFault.nd rfl (Or.inl rfl)) (pgs_cons (pg_name (i := 2) sc_formFault.nd rfl (Or.inl rfl)) pgs_nil))) (pss_one (ps_if (pt_not (pt_val (pe_cal C_mayFollow (hr.mono (by decide)) (by rfl) pass0 (pa_cons (pe_slice sl_tupA (pe_fld (pv 0) rfl) po_none (po_some (pv 1))) (pa_cons (pv 2) pa_nil))))) (pss_one (ps_ret (pv 1))) pss_nil)))
    (pss_one (ps_ret pe_non))))), ?_⟩
  have sh : Shorts d := sh
  cases b with
  | false =>
    have hv : dat K d B v := hv
    refine s_ifS (b := true) (Dt.or (a := true) (b := true) (Dt.eq (Dt.not (Dt.tB (isiN u_Form (.var hv rfl)))) rfl) fun z => nomatch z) hB (fun _ B1 H1 e1 => ?_) fun z => nomatch z
    exact s_ret (De.negI (K := K) .int) e1.bh fun v B' H' e h => k v B' H' (e1.trans e) h
  | true =>
    have hv : formD K C_Form d B v := hv
    have k : ∀ (v : V) (B' H' : Hp), Ext B H B' H' → dat K (faultD d) B' v → Q v H' := k
    cases ht : isD "tuple" d with
    | false =>
      have e : faultD d = .int (-1) := by cases d <;> first | rfl | cases ht
      rw [e] at k
      refine s_ifS (b := true) (Dt.or (a := false) (b := true) (Dt.eq (Dt.not (Dt.tB (isiC K_Form.c t_Form (.var hv rfl)))) rfl) fun _ => Dt.eq (Dt.not (Dt.tB (De.isi (fldD K_Form (.var hv rfl)) (by simp)))) (by rw [ht]; rfl)) hB (fun _ B1 H1 e1 => ?_) fun z => nomatch z
      exact s_ret (De.negI (K := K) .int) e1.bh fun v B' H' e h => k v B' H' (e1.trans e) h
    | true =>
      obtain ⟨ds, rfl⟩ : ∃ ds, d = .tuple ds := by cases d <;> first | exact ⟨_, rfl⟩ | cases ht
      refine s_skip (Dt.or (a := false) (Dt.eq (Dt.not (Dt.tB (isiC K_Form.c t_Form (.var hv rfl)))) rfl) fun _ => Dt.eq (Dt.not (Dt.tB (De.isi (fldD K_Form (.var hv rfl)) (by simp)))) rfl) hB fun B1 H1 e1 => ?_
      have hv := Mo.mo e1.bb hv
      have lenE : De (tFld K (tVar 0) "questions") (L2.start ["value", "at", "question"] [v]) B1 (dat K (.tuple ds)) := fldD K_Form (.var hv rfl)
      refine s_ifS (b := !(decide ((1 : Int) ≤ ds.length) && decide ((ds.length : Int) ≤ 8))) (Dt.not (Dt.test (K := K) (De.chain (r := rI0 fun i j => V.bl (decide (i ≤ j))) (r' := rI0 fun i j => V.bl (decide (i ≤ j))) .int (.cb (.one lenE) rc_lenT) Rv.I0b (fun _ => De.int (n := 8)) fun _ => Rv.I0b))) e1.bh (fun t B2 H2 e2 => ?_) fun f B2 H2 e2 => ?_
      · have nl : ¬ (1 ≤ ds.length ∧ ds.length ≤ 8) := by simp at t; omega
        have e : faultD (.tuple ds) = .int (-1) := if_neg nl
        rw [e] at k
        exact s_ret (De.negI (K := K) .int) e2.bh fun v B' H' e h => k v B' H' ((e1.trans e2).trans e) h
      · have hl : 1 ≤ ds.length ∧ ds.length ≤ 8 := by simp at f; omega
        have hv := Mo.mo e2.bb hv
        have fe : ∀ o, faultN ds = o → faultD (.tuple ds) = (match o with | some i => .int (i : Int) | none => .none) := fun o ho => by
          have : faultD (.tuple ds) = (match faultN ds with | some i => .int (i : Int) | none => .none) := if_pos hl
          rw [this, ho]
        dsimp only [tNext]
        refine s_forS (Di.enumTM (K := K) (as := ds) (f := fun d => d) (De.eq (d := .tuple ds) (fldD K_Form (.var (i := 0) hv rfl)) (by rw [List.map_id']))) e2.bh (fun i σ B => ∃ (v1 v2 : Option V), σ = [some v, v1, v2] ∧ ∀ j, j < i → okAt ds j = true) (fun B' s => ⟨none, none, rfl, fun j h => absurd h (Nat.not_lt_zero j)⟩) ?_ ?_
        · rintro B3 H3 e3 i R x σ' Bc Bn Hn hR ⟨v1, v2, rfl, ok⟩ s e hx
          rw [List.getElem?_map] at hR
          obtain ⟨p, hp, rfl⟩ := Option.map_eq_some_iff.mp hR
          rw [List.getElem?_zipIdx] at hp
          obtain ⟨q, hq, rfl⟩ := Option.map_eq_some_iff.mp hp
          obtain ⟨y, z, hy, hz, go⟩ := gTup2 e.bh hx
          refine go _ ?_
          have hy := dat_int hy
          subst hy
          rw [Nat.zero_add]
          have hv := Mo.mo (e3.bb.trans e.bb) hv
          have il : i < ds.length := (List.getElem?_eq_some_iff.mp hq).1
          refine s_if (b := !okAt ds i) (Dt.not (Dt.tB (De.call (args := fun a : List PyData × Nat × PyData => [dat K (.tuple (a.1.take a.2.1)), dat K a.2.2]) (res := fun a => dat K (.bool (okAt a.1 a.2.1))) (ds, i, q) (.cons (De.eq (De.slT (lo := none) (hi := some (i : Int)) (fldD K_Form (.var hv rfl)) .none (.some (K := K) (.var (Dp.int _) rfl))) ?_) (.cons (.var hz rfl) .nil)) ⟨hq, sh ds rfl q (List.mem_of_getElem? hq), ok⟩))) e.bh (fun t B5 H5 e5 => ?_) fun f B5 H5 e5 => ⟨B5, e.trans e5, _, _, rfl, fun j hj => ?_⟩
          · unfold cutA
            rw [HT.sIx_none, HT.sIx_nat, List.drop_zero, Nat.sub_zero, Nat.min_eq_left (Nat.le_of_lt il)]
          · have bad : okAt ds i = false := by simpa using t
            rw [fe _ (fault_at il bad ok)] at k
            exact s_ret (.var (Dp.int (i : Int)) rfl) e5.bh fun v B' H' e6 h => k v B' H' ((((e1.trans e2).trans e3).trans (e.trans e5)).trans e6) h
          · by_cases ji : j = i
            · subst ji
              simpa using f
            · exact ok j (by omega)
        · rintro σ' B' H' e3 ⟨v1, v2, rfl, ok⟩
          rw [List.length_map, List.length_zipIdx] at ok
          rw [fe _ (fault_none ok)] at k
          exact s_ret (De.non (K := K)) e3.bh fun v B' H' e h => k v B' H' (((e1.trans e2).trans e3).trans e) h
theorem sc_isForm : FnScope ["value"] ["value"] (defScope s_isForm) := ⟨rfl, rfl, rfl, by decide +kernel, rfl, by decide +kernel, by decide +kernel⟩
theorem ok_isForm (D : Def K mg "is_form" s_isForm ["value"]) (C_formFault : Cal P w K mg base CX0 4 "form_fault" s_formFault ["value"] (sp_formFault K C_Form)) : Cal P w K mg base CX0 5 "is_form" s_isForm ["value"] (sp_isForm K C_Form) := by
  refine D.ok sc_isForm (fun vs H Q E h => ?_) (fun cdv f A outer s H vs Q E hr h => ?_)
  · exact pf_len h fun _ => rfl
  replace h := pf1 h
  obtain ⟨v, B, ⟨b, d⟩, rfl, hB, hv, sh, k⟩ := h
  refine ⟨_, (pss_one (ps_ret (pe_cmpR op_isN (pe_cal C_formFault (hr.mono (by decide)) (by rfl) pass0 (pa_cons (pv 0) pa_nil)) pe_non (nomark _)))), ?_⟩
  exact s_ret (De.op (De.call (args := fun a : Bool × PyData => [valR K C_Form a.1 a.2]) (res := fun a => dat K (valFault a.1 a.2)) (b, d) (.cons (.var hv rfl) .nil) sh) .non Rv.isNone) hB k
end
end K30

set_option Elab.async false
set_option linter.all false
set_option maxRecDepth 100000
set_option maxHeartbeats 4000000
/-! We1: an own == asked of what is no instance; instances made by keywords alone. -/
namespace Wv
open PySem PySem.Spec PyProof.Rows L2 Wb
section
variable {X : Cx} {n : Nat} {C : Addr} {S : Sp}
def rEqX (K : PySem.W.Frag) (C : Addr) (S : Sp) : R2 := fun x y H Q => ∃ a b dx fs tb, x = .ref a ∧ y = .ref b ∧ H a = some (.ins C dx fs) ∧ TyX K H y tb ∧ PySem.W.notFirst K C tb = true ∧ S [x, y] H (fun v H' => ∃ t, v = .bl t ∧ Q (.bl t) H') E0
theorem op_eqX (c : CalE X.prog X.w X.K X.mg X.base n C S) (hr : Room n X.A) : OpR X (compareOp .Eq) (rEqX X.K C S) := by
  intro pins s σ H x y v u Q I rx ry hq
  obtain ⟨a, b, dx, fs, tb, rfl, rfl, ha, hT, nf, hS⟩ := hq
  obtain ⟨f, fd, F, hs, hf, hb⟩ := c
  cases rx
  obtain ⟨Pq, Z, pq, _⟩ := kit_of I ry hT
  cases ry
  obtain ⟨mA, J, _⟩ := ins_get I.hok ha
  obtain ⟨od, J, _⟩ := J.look
  obtain ⟨m, hF⟩ := I.fr
  show wpAny (model X.prog X.w) X.A (richCompare .Eq (.ref a) (.ref b)) (EP X pins σ Q) X.xe s
  refine PySem.W.cmp_K (op := .Eq) (tb := tb) hr.units0 hF I.ok.mod.kin J (Z.ty _ _ I.kIn pq) nf hs hf ?_
  exact eq_runs F hb hr rfl I hS fun t H' s' g I' => ⟨.bl t, H', I', rfl, g⟩
end
theorem notFirst_tuple {K : PySem.W.Frag} {C : Addr} : PySem.W.notFirst K C (.type "tuple") = true := by
  unfold PySem.W.notFirst PySem.W.subIn
  rfl
section
variable {C : Addr} {B : Hp} {R : Rel} {α : Type} {args : α → List Rel} {pre : α → Prop} {res : α → Rel} {K : PySem.W.Frag} {ds : List PyData}
theorem Rv.eqTup [i : IsIns C R] {t : Bool} (a : α) (hp : pre a) (ha : ∀ B x y, R B x → dat K (.tuple ds) B y → AllR (args a) B [x, y]) (hr : res a = dat K (.bool t)) : Rv (rEqX K C (Pf args pre res)) B R (dat K (.tuple ds)) (dat K (.bool t)) := fun x y B1 H s1 s2 hx hy Q q => by
  obtain ⟨b, dx, fs, rfl, hb⟩ := i.ins hx
  have ty : TyX K H y (.type "tuple") := ty_dat (d := .tuple ds) (dpMono s2 _ _ hy)
  have hy' := hy
  obtain ⟨c, rfl⟩ : ∃ c, y = .ref c := by cases hy'; exact ⟨_, rfl⟩
  refine ⟨b, c, dx, fs, _, rfl, rfl, s2 _ _ hb, ty, notFirst_tuple, B1, a, s2, ha _ _ _ hx hy, hp, fun v B' H' e hv => ?_⟩
  rw [hr] at hv
  have : v = .bl t := dat_bl hv
  exact ⟨t, this, q _ B' H' e (this ▸ hv)⟩
end
section
variable (P : Program) (w : World) (K : PySem.W.Frag) (mg : Str → Option Value) (base : Heap)
/-- .. made by keywords alone, in their order -/
structure CalCK (x : Str) (C : Addr) (fs : List Str) : Prop where
  g : mg x = some (.ref C)
  ini : ∃ (f : Addr) (fd : FuncData), Mk K C f ∧ FnOk P w K mg base CX0 1 f fd ("self" :: fs) (spIns C fs) ∧ KBn K fd ("self" :: fs) 1 fs (fun us ws => us ++ ws) (fun vs zs => vs ++ zs)
end
theorem vals_app : ∀ {vs : List V} {us : List Value} {zs : List V} {ws : List Value}, Vals vs us → Vals zs ws → Vals (vs ++ zs) (us ++ ws)
  | _, _, _, _, .nil, h => h
  | _, _, _, _, .cons r t, h => .cons r (vals_app t h)
theorem kbn_of {K : PySem.W.Frag} {x qual : Str} {st : Stmt} {f : Addr} {fd : FuncData} {ps ks : List Str} (F : Fun K x qual st f fd)
    (h : ∀ (kV doc pm : Value) (an : Option Addr) (cdv ct : Value) (us ws : List Value), us.length = 1 → ws.length = ks.length → bindArgs (PySem.W.fnOf x qual (defArgs st) (defBody st) (defScope st) .none kV doc pm an cdv ct) ⟨us, ks.zip ws⟩ = pure (ps.zip (us ++ ws))) :
    KBn K fd ps 1 ks (fun us ws => us ++ ws) (fun vs zs => vs ++ zs) := by
  obtain ⟨oc, od, kV, doc, pm, an, cdv, ct, osl, rfl, lk, hcd⟩ := F.ex
  exact ⟨fun s us ws _ l1 l2 => .of_eq (h kV doc pm an cdv ct us ws l1 l2), fun r1 r2 => vals_app r1 r2⟩
section
variable {X : Cx} {x : Str} {C : Addr} {fs : List Str} {k : Nat} {p pos : Pos} {kws : List Keyword} {tk : TA}
theorem pe_calCK (c : CalCK X.prog X.w X.K X.mg X.base x C fs) (hr : Room k X.A) (hk : 2 ≤ k) (hg : Gl X x) (hkw : PK X kws tk)
    (hall : (backToKw pos (keywordEach kws X.env)).all (·.1.isSome) = true := by rfl) (hks : (backToKw pos (keywordEach kws X.env)).filterMap (·.1) = fs := by rfl) (hdb : (x == ("__debug__" : Str)) = false := by decide)
    (hpl : ((backTo pos (starEach [] X.env)).any (·.1) || (backToKw pos (keywordEach kws X.env)).any (·.1.isNone)) = false := by rfl) :
    PE X (.Call (.Name x p) [] kws pos) (tMakeK C 0 fs.length (spIns C fs) (fun vs zs => vs ++ zs) E0 tNil tk) := by
  obtain ⟨f, fd, M, F, b⟩ := c.ini
  exact pe_makeK0 M F (hr.mono hk) hg c.g b pass0 hkw hall hks hdb hpl
end
section
variable {σ : L2.St} {B : Hp} {Rs : List Rel}
theorem De.makeK {C : Addr} {fs : List Str} {n : Nat} {ta : TA} [m : MoA Rs] (ha : Da ta σ B Rs) (hl : fs.length = Rs.length) (hn : n = fs.length) : De (tMakeK C 0 n (spIns C fs) (fun vs zs => vs ++ zs) E0 tNil ta) σ B (insR C (fs.zip Rs)) := fun B1 H s1 s2 Q q =>
  ha B1 H s1 s2 _ fun vs B2 H2 e hv => by
    have len := allR_len hv
    refine ⟨rfl, by omega, fun x dx hx hd ne => ?_⟩
    refine ⟨x, dx, vs, rfl, by omega, upd_same, rfl, ?_⟩
    rw [upd_over]
    have e1 : Ext B2 H2 B2 (upd H2 dx (.own x)) := .own e.bh hd
    have hx1 : upd H2 dx (.own x) x = none := by
      rw [upd_ne ne.symm]
      exact hx
    have e2 := Ext.new (o := .ins C dx (fs.zip vs)) e1.bh hx1
    exact q _ _ _ ((e.trans e1).trans e2) ⟨x, dx, _, rfl, upd_same, allF_zip hl (m.mo (new_same (e.bh.free hx)) hv)⟩
end
end Wv

set_option Elab.async false
set_option linter.all false
set_option maxRecDepth 100000
set_option maxHeartbeats 1000000
/-! K30d: words, letters, rows of any value. -/
namespace K30
open PySem PySem.Spec PyProof.Rows L2 Wb Wv Fm
instance {K : PySem.W.Frag} {C : Addr} {d : PyData} : IsIns C (formD K C d) := by unfold formD; infer_instance
def isRowD (qs : Qs) (lo : Int) (d : PyData) : Bool := match d with
  | .tuple ds => decide (ds.length = qs.length) && (ds.zip qs).all fun p => isInD p.1 lo ((p.2.2 : Int) - 1)
  | _ => false
abbrev sp_eqForm (K : PySem.W.Frag) (C : Addr) : Sp := Pf (α := PyData × Bool × PyData) (fun a => [formD K C a.1, valR K C a.2.1 a.2.2]) (fun a => SeqAt.shaped a.1 = true ∧ SeqAt.shaped a.2.2 = true) (fun a => dat K (.bool (a.2.1 && PyData.eqv a.1 a.2.2)))
abbrev sp_areAnswers (K : PySem.W.Frag) (C : Addr) : Sp := Pf (α := Qs × PyData × Int) (fun a => [formD K C (qsD a.1), dat K a.2.1, dat K (.int a.2.2)]) (fun _ => True) (fun a => dat K (.bool (isRowD a.1 a.2.2 a.2.1)))
abbrev sp_isSheet (K : PySem.W.Frag) (C : Addr) : Sp := Pf (α := Qs × PyData) (fun a => [formD K C (qsD a.1), dat K a.2]) (fun _ => True) (fun a => dat K (.bool (isRowD a.1 (-1) a.2)))
theorem isTupN {d : PyData} {n : Nat} (h : isTupD d n = true) : ∃ ds, d = .tuple ds ∧ ds.length = n := by
  unfold isTupD at h
  split at h
  · rename_i ds
    have h := of_decide_eq_true h
    exact ⟨ds, rfl, by omega⟩
  · cases h
theorem isRow_not {qs : Qs} {lo : Int} {d : PyData} (h : isTupD d qs.length = false) : isRowD qs lo d = false := by
  unfold isRowD
  cases d with
  | tuple ds =>
    have : ¬ ((ds.length : Int) = (qs.length : Int)) := of_decide_eq_false h
    have : ¬ (ds.length = qs.length) := by omega
    simp [this]
  | _ => rfl
def numD (d : PyData) : Bool := match d with
  | .int i => decide (0 ≤ i)
  | _ => false
def wordB (qs : Qs) (d : PyData) : Bool := isTupD d 0 || isRowD qs (-1) d
def intOf (d : PyData) : Int := match d with
  | .int i => i
  | _ => 0
def wordI (d : PyData) : List Int := match d with
  | .tuple ds => ds.map intOf
  | _ => []
theorem ints_form : ∀ {ds : List PyData}, (∀ x ∈ ds, ∃ i, x = .int i) → ds = (ds.map intOf).map .int
  | [], _ => rfl
  | x :: ds, h => by
    obtain ⟨i, rfl⟩ := h x List.mem_cons_self
    rw [List.map_cons, List.map_cons, ← ints_form fun y hy => h y (List.mem_cons_of_mem _ hy)]
    rfl
theorem inD_int {d : PyData} {lo hi : Int} (h : isInD d lo hi = true) : ∃ i, d = .int i := by
  cases d with
  | int i => exact ⟨i, rfl⟩
  | _ => cases h
theorem row_ints {qs : Qs} {lo : Int} {ds : List PyData} (h : isRowD qs lo (.tuple ds) = true) : ∀ x ∈ ds, ∃ i, x = .int i := fun x hx => by
  unfold isRowD at h
  rw [Bool.and_eq_true, decide_eq_true_eq, List.all_eq_true] at h
  obtain ⟨i, hi, rfl⟩ := List.mem_iff_getElem.mp hx
  exact inD_int (h.2 (ds[i], qs[i]'(by omega)) (List.mem_iff_getElem.mpr ⟨i, by rw [List.length_zip]; omega, by rw [List.getElem_zip]⟩))
theorem wordB_form {qs : Qs} {d : PyData} (h : wordB qs d = true) : d = .tuple ((wordI d).map .int) := by
  unfold wordB at h
  rw [Bool.or_eq_true] at h
  cases d with
  | tuple ds =>
    show PyData.tuple ds = .tuple ((ds.map intOf).map .int)
    rcases h with h | h
    · obtain ⟨es, e, l⟩ := isTupN (n := 0) h
      cases e
      rw [List.eq_nil_of_length_eq_zero l]
      rfl
    · rw [← ints_form (row_ints h)]
  | none => rcases h with h | h <;> cases h
  | bool b => rcases h with h | h <;> cases h
  | int b => rcases h with h | h <;> cases h
  | str b => rcases h with h | h <;> cases h
  | list b => rcases h with h | h <;> cases h
  | dict b => rcases h with h | h <;> cases h
/-- whether the i-th stands rightly: of its kind, above the one ahead -/
def okA (p : PyData → Bool) (lt : PyData → PyData → Bool) (ds : List PyData) (i : Nat) : Bool := match ds[i]? with
  | some d => p d && (decide (i = 0) || (match ds[i - 1]? with | some q => lt q d | none => false))
  | none => false
theorem okA_zero {p : PyData → Bool} {lt : PyData → PyData → Bool} {ds : List PyData} {d : PyData} (hd : ds[0]? = some d) : okA p lt ds 0 = p d := by
  unfold okA
  rw [hd]
  simp
theorem okA_succ {p : PyData → Bool} {lt : PyData → PyData → Bool} {ds : List PyData} {i : Nat} {q d : PyData} (hq : ds[i]? = some q) (hd : ds[i + 1]? = some d) : okA p lt ds (i + 1) = (p d && lt q d) := by
  unfold okA
  rw [hd, Nat.add_sub_cancel, hq]
  simp
theorem okA_bad {p : PyData → Bool} {lt : PyData → PyData → Bool} {ds : List PyData} {i : Nat} {d : PyData} (hd : ds[i]? = some d) (h : p d = false) : okA p lt ds i = false := by
  unfold okA
  rw [hd]
  simp [h]
theorem okA_ok {p : PyData → Bool} {lt : PyData → PyData → Bool} {ds : List PyData} {i : Nat} {d : PyData} (hd : ds[i]? = some d) (h : okA p lt ds i = true) : p d = true := by
  unfold okA at h
  rw [hd] at h
  exact (Bool.and_eq_true _ _ ▸ h).1
def ltW (a b : PyData) : Bool := decide (wordI a < wordI b)
def wordsB (qs : Qs) (d : PyData) : Bool := match d with
  | .tuple ds => !decide (ds.length = 0) && (List.range ds.length).all (okA (wordB qs) ltW ds)
  | _ => false
def letterB (qs : Qs) (d : PyData) : Bool := match d with
  | .tuple [a, b, c] => numD a && (numD b && wordB qs c)
  | _ => false
def rowB (qs : Qs) (d : PyData) : Bool := match d with
  | .tuple [a, b, c] => numD a && (numD b && wordsB qs c)
  | _ => false
def rnum (d : PyData) : Int := match d with
  | .tuple (.int i :: _) => i
  | _ => 0
def ltR (a b : PyData) : Bool := decide (rnum a < rnum b)
theorem rowB_form {qs : Qs} {d : PyData} (h : rowB qs d = true) : ∃ i b c, d = .tuple [.int i, b, c] := by
  unfold rowB at h
  split at h
  · rename_i a b c
    cases a with
    | int i => exact ⟨i, b, c, rfl⟩
    | none => cases h
    | bool x => cases h
    | str x => cases h
    | list x => cases h
    | tuple x => cases h
    | dict x => cases h
  · cases h
def faultA (p : PyData → Bool) (lt : PyData → PyData → Bool) (ds : List PyData) : Option Nat := (List.range ds.length).find? fun i => !okA p lt ds i
theorem faultA_at {p : PyData → Bool} {lt : PyData → PyData → Bool} {ds : List PyData} {i : Nat} (h : i < ds.length) (bad : okA p lt ds i = false) (l : ∀ j, j < i → okA p lt ds j = true) : faultA p lt ds = some i := find_first h (by rw [bad]; rfl) fun j hj => by rw [l j hj]; rfl
theorem faultA_none {p : PyData → Bool} {lt : PyData → PyData → Bool} {ds : List PyData} (all : ∀ j, j < ds.length → okA p lt ds j = true) : faultA p lt ds = none := by
  unfold faultA
  rw [List.find?_eq_none]
  intro j hj
  rw [all j (List.mem_range.mp hj)]
  decide
theorem isTup3 {d : PyData} (h : isTupD d 3 = true) : ∃ x y z, d = .tuple [x, y, z] := by
  obtain ⟨ds, rfl, l⟩ := isTupN (n := 3) h
  match ds, l with
  | [x, y, z], _ => exact ⟨x, y, z, rfl⟩
theorem tup3_not {d : PyData} (h : isTupD d 3 = false) (x y z : PyData) : d ≠ .tuple [x, y, z] := fun e => by
  subst e
  cases h
theorem letterB_not {qs : Qs} {d : PyData} (h : isTupD d 3 = false) : letterB qs d = false := by
  unfold letterB
  split
  · cases h
  · rfl
theorem rowB_not {qs : Qs} {d : PyData} (h : isTupD d 3 = false) : rowB qs d = false := by
  unfold rowB
  split
  · cases h
  · rfl
abbrev sp_isNumber (K : PySem.W.Frag) : Sp := Pf (α := PyData) (fun d => [dat K d]) (fun _ => True) (fun d => dat K (.bool (numD d)))
abbrev sp_isWord (K : PySem.W.Frag) (C : Addr) : Sp := Pf (α := Qs × PyData) (fun a => [formD K C (qsD a.1), dat K a.2]) (fun _ => True) (fun a => dat K (.bool (wordB a.1 a.2)))
abbrev sp_areWords (K : PySem.W.Frag) (C : Addr) : Sp := Pf (α := Qs × PyData) (fun a => [formD K C (qsD a.1), dat K a.2]) (fun _ => True) (fun a => dat K (.bool (wordsB a.1 a.2)))
abbrev sp_isRow (K : PySem.W.Frag) (C : Addr) : Sp := Pf (α := Qs × PyData) (fun a => [formD K C (qsD a.1), dat K a.2]) (fun _ => True) (fun a => dat K (.bool (rowB a.1 a.2)))
def sp_needLetter (K : PySem.W.Frag) (C CI : Addr) : Sp := fun vs H Q E => ∃ (x y : V) (B : Hp) (qs : Qs) (d : PyData), vs = [x, y] ∧ Same B H ∧ formD K C (qsD qs) B x ∧ dat K d B y ∧ (letterB qs d = true → ∀ v B' H', Ext B H B' H' → dat K .none B' v → Q v H') ∧
  (letterB qs d = false → ∀ B' H' dx, Ext B H B' H' → H' dx = none → E (.ref CI) (some dx) (upd H' dx (.xd [("word", .str "letter")])))
section
variable {P : Program} {w : World} {K : PySem.W.Frag} {mg : Str → Option Value} {base : Heap} {C_Form C_Tally C_InvalidForm C_InvalidSize C_InvalidSheets C_BlankError : Addr} {t_MOST_QUESTIONS : Tok}
theorem eq_form {f : Addr} {fd : FuncData} (F : Fun K "__eq__" "Form.__eq__" (inClass (topS 12) 1) f fd) (n_isinstance : mg "isinstance" = none) (K_Form : CalC P w K mg base "Form" C_Form ["questions"]) (t_Form : IsiC K C_Form) (u_Form : NotC K C_Form) : FnOk P w K mg base CX0 1 f fd ["self", "other"] (sp_eqForm K C_Form) := by
  refine F.ok (N := ["self", "other"]) ⟨rfl, rfl, rfl, by decide +kernel, rfl, by decide +kernel, by decide +kernel⟩ (fun vs H Q E h => ?_) (fun cdv A outer s H vs Q E hr h => ?_)
  · exact pf_len h fun _ => rfl
  replace h := pf2 h
  obtain ⟨v, v1, B, ⟨d, b, d2⟩, rfl, hB, hv, hv1, ⟨sh, sh2⟩, k⟩ := h
  refine ⟨_, pss_one (ps_ret (pe_and (pe_callB call_isi (by rfl) n_isinstance (by decide +kernel) (pa_cons (pv 1) (pa_cons (pe_glob (by rfl) K_Form.g (show RelV (.ref C_Form) (.ref C_Form) from rfl)) pa_nil))) (pe_one (pe_cmpR (op_eqD hr.units) (pe_fld (pv 0) rfl) (pe_fld (pv 1) rfl) (nomark _))))), ?_⟩
  cases b with
  | true =>
    have hv1 : formD K C_Form d2 B v1 := hv1
    exact s_ret (De.andV (a := true) (isiC K_Form.c t_Form (.var hv1 rfl)) fun _ => De.op (r := rEqD K) (fldD K_Form (.var hv rfl)) (fldD K_Form (.var hv1 rfl)) (Rv.eqD sh sh2)) hB k
  | false =>
    have hv1 : dat K d2 B v1 := hv1
    exact s_ret (De.andV (a := false) (b := PyData.eqv d d2) (isiN u_Form (.var hv1 rfl)) fun z => nomatch z) hB k
theorem sc_areAnswers : FnScope ["form", "value", "least", "answer", "question"] ["form", "value", "least"] (defScope s_areAnswers) := ⟨rfl, rfl, rfl, by decide +kernel, rfl, by decide +kernel, by decide +kernel⟩
theorem ok_areAnswers (D : Def K mg "are_answers" s_areAnswers ["form", "value", "least"]) (C_isTupleOf : Cal P w K mg base CX0 1 "is_tuple_of" s_isTupleOf ["value", "many"] (sp_isTupleOf K)) (n_len : mg "len" = none) (n_zip : mg "zip" = none) (C_isInt : Cal P w K mg base CX0 1 "is_int" s_isInt ["value"] (sp_isInt K)) (K_Form : CalC P w K mg base "Form" C_Form ["questions"]) : Cal P w K mg base CX0 2 "are_answers" s_areAnswers ["form", "value", "least"] (sp_areAnswers K C_Form) := by
  refine D.ok sc_areAnswers (fun vs H Q E h => ?_) (fun cdv f A outer s H vs Q E hr h => ?_)
  · exact pf_len h fun _ => rfl
  replace h := pf3 h
  obtain ⟨v, v1, v2, B, ⟨qs, d, lo⟩, rfl, hB, hv, hv1, hv2, _, k⟩ := h
  refine ⟨_, (pss_cons (ps_if (pt_not (pt_val (pe_cal C_isTupleOf (hr.mono (by decide)) (by rfl) pass0 (pa_cons (pv 1) (pa_cons (pe_callB call_len (by rfl) n_len (by decide +kernel) (pa_cons (pe_fld (pv 0) rfl) pa_nil)) pa_nil))))) (pss_one (ps_ret pe_bl)) pss_nil)
    (pss_cons (ps_for PassesOwn.never rfl (RZ.pi_zipA (by rfl) n_zip (pa_cons (pv 1) (pa_cons (pe_fld (pv 0) rfl) pa_nil))) (pg_tup rfl (pgs_cons (pg_name (i := 3) sc_areAnswers.nd rfl (Or.inl rfl)) (pgs_cons (pg_name (i := 4) sc_areAnswers.nd rfl (Or.inl rfl)) pgs_nil))) (pss_one (ps_if (PW.pt (pw_or (pt_not (pt_val (pe_cal C_isInt (hr.mono (by decide)) (by rfl) pass0 (pa_cons (pv 3) pa_nil)))) (pw_or1 (pt_not (pt_chain op_le op_lt (pv 2) (pv 3) (pe_ix ix_tup (pv 4) pe_int (fun _ _ => rfl))))))) (pss_one (ps_ret pe_bl)) pss_nil)))
    (pss_one (ps_ret pe_bl)))), ?_⟩
  have hv : formD K C_Form (qsD qs) B v := hv
  have hv1 : dat K d B v1 := hv1
  have hv2 : dat K (.int lo) B v2 := hv2
  have hv2 := dat_int hv2
  subst hv2
  have k : ∀ (v : V) (B' H' : Hp), Ext B H B' H' → dat K (.bool (isRowD qs lo d)) B' v → Q v H' := k
  have lenE : ∀ {B1 : Hp} {σ : L2.St}, formD K C_Form (qsD qs) B1 v → σ[0]? = some (some v) → De (tFld K (tVar 0) "questions") σ B1 (dat K (.tuple (qs.map encQ))) := fun h z => fldD K_Form (.var h z)
  cases ht : isTupD d qs.length with
  | false =>
    refine s_ifS (b := true) (Dt.eq (Dt.not (Dt.tB (De.isTup (n := qs.length) (.var hv1 rfl) (De.eq (De.cb (.one (lenE hv rfl)) rc_lenT) (by rw [List.length_map]))))) (by rw [ht]; rfl)) hB (fun _ B1 H1 e1 => ?_) fun z => nomatch z
    rw [isRow_not ht] at k
    exact s_ret (De.bl (K := K)) e1.bh fun v B' H' e h => k v B' H' (e1.trans e) h
  | true =>
    obtain ⟨ds, rfl, hl⟩ := isTupN ht
    refine s_skip (Dt.eq (Dt.not (Dt.tB (De.isTup (n := qs.length) (.var hv1 rfl) (De.eq (De.cb (.one (lenE hv rfl)) rc_lenT) (by rw [List.length_map]))))) (by rw [ht]; rfl)) hB fun B1 H1 e1 => ?_
    have lz : (ds.zip qs).length = qs.length := by rw [List.length_zip]; omega
    have row : isRowD qs lo (.tuple ds) = (ds.zip qs).all fun p => isInD p.1 lo ((p.2.2 : Int) - 1) := by
      unfold isRowD
      simp [hl]
    rw [row] at k
    refine s_forS (Di.zipTM (K := K) (as := ds) (bs := qs) (f := fun d => d) (g := encQ) (De.eq (d := .tuple ds) (.var (Mo.mo e1.bb hv1) rfl) (by rw [List.map_id'])) (lenE (Mo.mo e1.bb hv) rfl)) e1.bh (fun i σ B => ∃ v3 v4, σ = [some v, some v1, some (.int lo), v3, v4] ∧ ∀ p ∈ (ds.zip qs).take i, isInD p.1 lo ((p.2.2 : Int) - 1) = true) (fun B' s => ⟨none, none, rfl, fun p h => by simp at h⟩) ?_ ?_
    · rintro B2 H2 e2 i R x σ' Bc Bn Hn hR ⟨v3, v4, rfl, ok⟩ s e hx
      rw [List.getElem?_map] at hR
      obtain ⟨⟨y, q⟩, hp, rfl⟩ := Option.map_eq_some_iff.mp hR
      obtain ⟨a, b, ha, hb, go⟩ := gTup2 e.bh hx
      refine go _ ?_
      have ha : dat K y Bn a := ha
      have hb : dat K (encQ q) Bn b := hb
      have test : Dt (tOr (tNot (tB (tCall (sp_isInt K) [] E0 (tCons (tVar 3) tNil)))) (tNot (tTest (tChain (rI0 fun i j => V.bl (decide (i ≤ j))) (rI0 fun i j => V.bl (decide (i < j))) (tVar 2) (tVar 3) (tOp (rIxT K) (tVar 4) (tC (.int 1))))))) [some v, some v1, some (.int lo), some a, some b] Bn (!isInD y lo ((q.2 : Int) - 1)) := by
        cases y with
        | int i =>
          refine Dt.eq (Dt.or (a := false) (Dt.not (Dt.tB (De.isInt (.var ha rfl)))) fun _ => Dt.not (Dt.test (K := K) (De.chain (.var (Dp.int lo) rfl) (.var ha rfl) Rv.I0b (fun _ => De.op (r := rIxT K) (.var hb rfl) .int (Rv.ixTD (d := .int (q.2 : Int)) rfl)) fun _ => Rv.I0b))) ?_
          show (!(decide (lo ≤ i) && decide (i < (q.2 : Int)))) = !(decide (lo ≤ i) && decide (i ≤ (q.2 : Int) - 1))
          rw [show decide (i < (q.2 : Int)) = decide (i ≤ (q.2 : Int) - 1) from decide_eq_decide.mpr (by omega)]
        | _ => exact Dt.or (a := true) (b := true) (Dt.not (Dt.tB (De.isInt (.var ha rfl)))) fun z => nomatch z
      refine s_if test e.bh (fun t B5 H5 e5 => ?_) fun f B5 H5 e5 => ⟨B5, e.trans e5, _, _, rfl, fun p hm => ?_⟩
      · have bad : isInD y lo ((q.2 : Int) - 1) = false := by simpa using t
        have all : ((ds.zip qs).all fun p => isInD p.1 lo ((p.2.2 : Int) - 1)) = false := by
          rw [List.all_eq_false]
          exact ⟨(y, q), List.mem_of_getElem? hp, by rw [bad]; decide⟩
        rw [all] at k
        exact s_ret (De.bl (K := K)) e5.bh fun v B' H' e6 h => k v B' H' (((e1.trans e2).trans (e.trans e5)).trans e6) h
      · rw [take_snoc hp] at hm
        rcases List.mem_append.mp hm with h | h
        · exact ok p h
        · rw [List.mem_singleton.mp h]
          simpa using f
    · rintro σ' B' H' e2 ⟨v3, v4, rfl, ok⟩
      rw [List.length_map, List.take_length] at ok
      rw [List.all_eq_true.mpr ok] at k
      exact s_ret (De.bl (K := K)) e2.bh fun v B' H' e h => k v B' H' ((e1.trans e2).trans e) h
theorem sc_isSheet : FnScope ["form", "value"] ["form", "value"] (defScope s_isSheet) := ⟨rfl, rfl, rfl, by decide +kernel, rfl, by decide +kernel, by decide +kernel⟩
theorem ok_isSheet (D : Def K mg "is_sheet" s_isSheet ["form", "value"]) (C_areAnswers : Cal P w K mg base CX0 2 "are_answers" s_areAnswers ["form", "value", "least"] (sp_areAnswers K C_Form)) : Cal P w K mg base CX0 3 "is_sheet" s_isSheet ["form", "value"] (sp_isSheet K C_Form) := by
  refine D.ok sc_isSheet (fun vs H Q E h => ?_) (fun cdv f A outer s H vs Q E hr h => ?_)
  · exact pf_len h fun _ => rfl
  replace h := pf2 h
  obtain ⟨v, v1, B, ⟨qs, d⟩, rfl, hB, hv, hv1, _, k⟩ := h
  refine ⟨_, (pss_one (ps_ret (pe_cal C_areAnswers (hr.mono (by decide)) (by rfl) pass0 (pa_cons (pv 0) (pa_cons (pv 1) (pa_cons (pe_un un_neg pe_int) pa_nil)))))), ?_⟩
  exact s_ret (De.call (args := fun a : Qs × PyData × Int => [formD K C_Form (qsD a.1), dat K a.2.1, dat K (.int a.2.2)]) (res := fun a => dat K (.bool (isRowD a.1 a.2.2 a.2.1))) (qs, d, -1) (.cons (.var hv rfl) (.cons (.var hv1 rfl) (.cons (.negI .int) .nil))) trivial) hB k
theorem sc_isNumber : FnScope ["value"] ["value"] (defScope s_isNumber) := ⟨rfl, rfl, rfl, by decide +kernel, rfl, by decide +kernel, by decide +kernel⟩
theorem ok_isNumber (D : Def K mg "is_number" s_isNumber ["value"]) (C_isInt : Cal P w K mg base CX0 1 "is_int" s_isInt ["value"] (sp_isInt K)) : Cal P w K mg base CX0 2 "is_number" s_isNumber ["value"] (sp_isNumber K) := by
  refine D.ok sc_isNumber (fun vs H Q E h => ?_) (fun cdv f A outer s H vs Q E hr h => ?_)
  · exact pf_len h fun _ => rfl
  replace h := pf1 h
  obtain ⟨v, B, d, rfl, hB, hv, _, k⟩ := h
  refine ⟨_, (pss_one (ps_ret (pe_and (pe_cal C_isInt (hr.mono (by decide)) (by rfl) pass0 (pa_cons (pv 0) pa_nil)) (pe_one (pe_cmpR op_ge (pv 0) pe_int (nomark _)))))), ?_⟩
  have hv : dat K d B v := hv
  have k : ∀ (v : V) (B' H' : Hp), Ext B H B' H' → dat K (.bool (numD d)) B' v → Q v H' := k
  cases hd : d with
  | int i =>
    subst hd
    exact s_ret (De.andV (a := true) (b := decide (0 ≤ i)) (De.isInt (.var hv rfl)) fun _ => De.op (.var hv rfl) (De.int (n := 0)) Rv.I0b) hB k
  | _ =>
    subst hd
    exact s_ret (De.andV (a := false) (b := false) (De.isInt (.var hv rfl)) fun z => nomatch z) hB k
theorem De.isNum {σ : L2.St} {B : Hp} {te : TE} {E : XK} {d : PyData} (h : De te σ B (dat K d)) : De (tCall (sp_isNumber K) [] E (tCons te tNil)) σ B (dat K (.bool (numD d))) := De.call (args := fun d => [dat K d]) (res := fun d => dat K (.bool (numD d))) d (.one h) trivial
theorem sc_isWord : FnScope ["form", "value"] ["form", "value"] (defScope s_isWord) := ⟨rfl, rfl, rfl, by decide +kernel, rfl, by decide +kernel, by decide +kernel⟩
theorem ok_isWord (D : Def K mg "is_word" s_isWord ["form", "value"]) (C_isTupleOf : Cal P w K mg base CX0 1 "is_tuple_of" s_isTupleOf ["value", "many"] (sp_isTupleOf K)) (C_isSheet : Cal P w K mg base CX0 3 "is_sheet" s_isSheet ["form", "value"] (sp_isSheet K C_Form)) : Cal P w K mg base CX0 4 "is_word" s_isWord ["form", "value"] (sp_isWord K C_Form) := by
  refine D.ok sc_isWord (fun vs H Q E h => ?_) (fun cdv f A outer s H vs Q E hr h => ?_)
  · exact pf_len h fun _ => rfl
  replace h := pf2 h
  obtain ⟨v, v1, B, ⟨qs, d⟩, rfl, hB, hv, hv1, _, k⟩ := h
  refine ⟨_, (pss_one (ps_ret (pe_or (pe_cal C_isTupleOf (hr.mono (by decide)) (by rfl) pass0 (pa_cons (pv 1) (pa_cons pe_int pa_nil))) (pe_one (pe_cal C_isSheet (hr.mono (by decide)) (by rfl) pass0 (pa_cons (pv 0) (pa_cons (pv 1) pa_nil))))))), ?_⟩
  have hv : formD K C_Form (qsD qs) B v := hv
  have hv1 : dat K d B v1 := hv1
  exact s_ret (De.orV (De.isTup (.var hv1 rfl) (De.int (n := 0))) fun _ => De.call (args := fun a : Qs × PyData => [formD K C_Form (qsD a.1), dat K a.2]) (res := fun a => dat K (.bool (isRowD a.1 (-1) a.2))) (qs, d) (.cons (.var hv rfl) (.cons (.var hv1 rfl) .nil)) trivial) hB k
theorem De.isWord {σ : L2.St} {B : Hp} {te tf : TE} {E : XK} {qs : Qs} {d : PyData} (h : De te σ B (formD K C_Form (qsD qs))) (h2 : De tf σ B (dat K d)) : De (tCall (sp_isWord K C_Form) [] E (tCons te (tCons tf tNil))) σ B (dat K (.bool (wordB qs d))) := De.call (args := fun a : Qs × PyData => [formD K C_Form (qsD a.1), dat K a.2]) (res := fun a => dat K (.bool (wordB a.1 a.2))) (qs, d) (.cons h (.cons h2 .nil)) trivial
theorem sc_needLetter : FnScope ["form", "value"] ["form", "value"] (defScope s_needLetter) := ⟨rfl, rfl, rfl, by decide +kernel, rfl, by decide +kernel, by decide +kernel⟩
theorem ok_needLetter (D : Def K mg "need_letter" s_needLetter ["form", "value"]) (C_isTupleOf : Cal P w K mg base CX0 1 "is_tuple_of" s_isTupleOf ["value", "many"] (sp_isTupleOf K)) (C_isNumber : Cal P w K mg base CX0 2 "is_number" s_isNumber ["value"] (sp_isNumber K)) (C_isWord : Cal P w K mg base CX0 4 "is_word" s_isWord ["form", "value"] (sp_isWord K C_Form)) (Z_InvalidSize : Err P w K mg base "InvalidSize" "word" C_InvalidSize (topE C_BlankError)) : Cal P w K mg base (L2.CX P w) 5 "need_letter" s_needLetter ["form", "value"] (sp_needLetter K C_Form C_InvalidSize) := by
  refine D.okX sc_needLetter (fun vs H Q E h => ?_) (fun cdv f A outer s H vs Q E hr h => ?_)
  · obtain ⟨x, y, B, qs, d, rfl, _⟩ := h
    rfl
  obtain ⟨v, v1, B, qs, d, rfl, hB, hv, hv1, kr, kx⟩ := h
  refine ⟨_, (pss_one (ps_if (PW.pt (pw_or (pt_not (pt_val (pe_cal C_isTupleOf (hr.mono (by decide)) (by rfl) pass0 (pa_cons (pv 1) (pa_cons pe_int pa_nil))))) (pw_or (pt_not (pt_val (pe_cal C_isNumber (hr.mono (by decide)) (by rfl) pass0 (pa_cons (pe_ix ix_tup (pv 1) pe_int (fun _ _ => rfl)) pa_nil)))) (pw_or (pt_not (pt_val (pe_cal C_isNumber (hr.mono (by decide)) (by rfl) pass0 (pa_cons (pe_ix ix_tup (pv 1) pe_int (fun _ _ => rfl)) pa_nil)))) (pw_or1 (pt_not (pt_val (pe_cal C_isWord (hr.mono (by decide)) (by rfl) pass0 (pa_cons (pv 0) (pa_cons (pe_ix ix_tup (pv 1) pe_int (fun _ _ => rfl)) pa_nil)))))))))) (pss_one (ps_raise rfl (takes_of rfl rfl rfl rfl) (pmk_E Z_InvalidSize hr (by decide) rfl (pa_cons pe_str pa_nil)))) pss_nil)), ?_⟩
  cases ht : isTupD d 3 with
  | false =>
    have bad : letterB qs d = false := letterB_not ht
    refine s_if (b := true) (Dt.or (a := true) (b := true) (Dt.eq (Dt.not (Dt.tB (De.isTup (.var hv1 rfl) (De.int (n := 3))))) (by rw [ht]; rfl)) fun z => nomatch z) hB (fun _ B2 H2 e2 => ?_) fun z => nomatch z
    exact ⟨.str "letter", rfl, fun dx hdx => kx bad B2 H2 dx e2 hdx⟩
  | true =>
    obtain ⟨a, b, c, rfl⟩ := isTup3 ht
    have lb : letterB qs (.tuple [a, b, c]) = (numD a && (numD b && wordB qs c)) := rfl
    refine s_if (b := !letterB qs (.tuple [a, b, c])) (Dt.eq (Dt.or (a := false) (Dt.eq (Dt.not (Dt.tB (De.isTup (.var hv1 rfl) (De.int (n := 3))))) rfl) fun _ => Dt.or (Dt.not (Dt.tB (De.isNum (E := E0) (De.op (r := rIxT K) (.var hv1 rfl) (De.int (n := 0)) (Rv.ixTD (d := a) rfl))))) fun _ => Dt.or (Dt.not (Dt.tB (De.isNum (E := E0) (De.op (r := rIxT K) (.var hv1 rfl) (De.int (n := 1)) (Rv.ixTD (d := b) rfl))))) fun _ => Dt.not (Dt.tB (De.isWord (E := E0) (.var hv rfl) (De.op (r := rIxT K) (.var hv1 rfl) (De.int (n := 2)) (Rv.ixTD (d := c) rfl))))) (by rw [lb]; cases numD a <;> cases numD b <;> cases wordB qs c <;> rfl)) hB (fun t B2 H2 e2 => ?_) fun f B2 H2 e2 => ?_
    · exact ⟨.str "letter", rfl, fun dx hdx => kx (by simpa using t) B2 H2 dx e2 hdx⟩
    · exact kr (by simpa using f) .non B2 H2 e2 .non
end
end K30

set_option Elab.async false
set_option linter.all false
set_option maxRecDepth 100000
set_option maxHeartbeats 1000000
/-! K30e: tallies of any value. -/
namespace K30
open PySem PySem.Spec PyProof.Rows L2 Wb Wv Fm
/-- a Tally of a form (or of anything) and of rows, or any data -/
inductive TV where
  | tal (b : Bool) (f r : PyData)
  | dat (d : PyData)
def tvR (K : PySem.W.Frag) (CF CT : Addr) (t : TV) : Rel := match t with
  | .tal b f r => insR CT [("form", valR K CF b f), ("rows", Wv.dat K r)]
  | .dat d => Wv.dat K d
instance {K : PySem.W.Frag} {CF CT : Addr} {b : Bool} {f r : PyData} : Mo (insR CT [("form", valR K CF b f), ("rows", dat K r)]) := by infer_instance
instance {K : PySem.W.Frag} {CF CT : Addr} {t : TV} : Mo (tvR K CF CT t) := by
  cases t with
  | tal b f r => exact inferInstanceAs (Mo (insR CT [("form", valR K CF b f), ("rows", dat K r)]))
  | dat d => exact inferInstanceAs (Mo (dat K d))
def qOf (d : PyData) : Str × Nat := match d with
  | .tuple [.str z, .int i] => (z, i.toNat)
  | _ => (⟨#[]⟩, 0)
def qsOf (d : PyData) : Qs := match d with
  | .tuple ds => ds.map qOf
  | _ => []
theorem qsOf_D (qs : Qs) : qsOf (qsD qs) = qs := by
  show (qs.map encQ).map qOf = qs
  rw [List.map_map]
  have : (qOf ∘ encQ) = id := by
    funext q
    show (q.1, (q.2 : Int).toNat) = q
    rw [Int.toNat_natCast]
  rw [this, List.map_id]
def rowsFault (qs : Qs) (r : PyData) : PyData := match r with
  | .tuple ds => (match faultA (rowB qs) ltR ds with | some i => .int (i : Int) | none => .none)
  | _ => .int (-1)
def tvFault (t : TV) : PyData := match t with
  | .tal b f r => if isNoneD (valFault b f) then rowsFault (qsOf f) r else .int (-1)
  | .dat _ => .int (-1)
def tvShort (t : TV) : Prop := match t with
  | .tal _ f _ => Shorts f
  | .dat _ => True
abbrev sp_tallyFault (K : PySem.W.Frag) (CF CT : Addr) : Sp := Pf (α := TV) (fun t => [tvR K CF CT t]) (fun t => tvShort t) (fun t => dat K (tvFault t))
abbrev sp_isTally (K : PySem.W.Frag) (CF CT : Addr) : Sp := Pf (α := TV) (fun t => [tvR K CF CT t]) (fun t => tvShort t) (fun t => dat K (.bool (isNoneD (tvFault t))))
def sp_needTally (K : PySem.W.Frag) (CF CT CI : Addr) : Sp := fun vs H Q E => ∃ (x : V) (B : Hp) (t : TV), vs = [x] ∧ Same B H ∧ tvR K CF CT t B x ∧ tvShort t ∧ (tvFault t = .none → ∀ v B' H', Ext B H B' H' → dat K .none B' v → Q v H') ∧
  ∀ i, tvFault t = .int i → ∀ B' H' dx, Ext B H B' H' → H' dx = none → E (.ref CI) (some dx) (upd H' dx (.xd [("at", .int i)]))
theorem rowsFault_kinds (qs : Qs) (r : PyData) : rowsFault qs r = .none ∨ ∃ i, rowsFault qs r = .int i := by
  unfold rowsFault
  split
  · split
    · exact .inr ⟨_, rfl⟩
    · exact .inl rfl
  · exact .inr ⟨_, rfl⟩
theorem tvFault_kinds (t : TV) : tvFault t = .none ∨ ∃ i, tvFault t = .int i := by
  cases t with
  | tal b f r =>
    show (if isNoneD (valFault b f) then rowsFault (qsOf f) r else .int (-1)) = _ ∨ ∃ i, (if isNoneD (valFault b f) then rowsFault (qsOf f) r else .int (-1)) = _
    split
    · exact rowsFault_kinds _ _
    · exact .inr ⟨_, rfl⟩
  | dat d => exact .inr ⟨_, rfl⟩
theorem ltW_le {a b : PyData} : (!decide (wordI b ≤ wordI a)) = ltW a b := by
  unfold ltW
  rw [Bool.eq_iff_iff, Bool.not_eq_true', decide_eq_false_iff_not, decide_eq_true_eq, List.not_le]
section
variable {P : Program} {w : World} {K : PySem.W.Frag} {mg : Str → Option Value} {base : Heap} {C_Form C_Tally C_InvalidForm C_InvalidSize C_InvalidSheets C_BlankError : Addr} {t_MOST_QUESTIONS : Tok}
theorem sc_areWords : FnScope ["form", "value", "at", "word"] ["form", "value"] (defScope s_areWords) := ⟨rfl, rfl, rfl, by decide +kernel, rfl, by decide +kernel, by decide +kernel⟩
theorem ok_areWords (D : Def K mg "are_words" s_areWords ["form", "value"]) (n_tuple : mg "tuple" = none) (n_isinstance : mg "isinstance" = none) (n_len : mg "len" = none) (n_enumerate : mg "enumerate" = none) (C_isWord : Cal P w K mg base CX0 4 "is_word" s_isWord ["form", "value"] (sp_isWord K C_Form)) : Cal P w K mg base CX0 5 "are_words" s_areWords ["form", "value"] (sp_areWords K C_Form) := by
  refine D.ok sc_areWords (fun vs H Q E h => ?_) (fun cdv f A outer s H vs Q E hr h => ?_)
  · exact pf_len h fun _ => rfl
  replace h := pf2 h
  obtain ⟨v, v1, B, ⟨qs, d⟩, rfl, hB, hv, hv1, _, k⟩ := h
  refine ⟨_, (pss_cons (ps_if (PW.pt (pw_or (pt_not (pt_val (pe_callB call_isi (by rfl) n_isinstance (by decide +kernel) (pa_cons (pv 1) (pa_cons (pe_bltn (by rfl) n_tuple (by decide +kernel) (show RelV (.ty "tuple") (.type "tuple") from rfl)) pa_nil))))) (pw_or1 (pt_cmpR op_eq (pe_callB call_len (by rfl) n_len (by decide +kernel) (pa_cons (pv 1) pa_nil)) pe_int (nomark _))))) (pss_one (ps_ret pe_bl)) pss_nil)
    (pss_cons (ps_for PassesOwn.never rfl (pi_enumT (by rfl) n_enumerate (pa_cons (pv 1) pa_nil)) (pg_tup rfl (pgs_cons (pg_name (i := 2) sc_areWords.nd rfl (Or.inl rfl)) (pgs_cons (pg_name (i := 3) sc_areWords.nd rfl (Or.inl rfl)) pgs_nil))) (pss_one (ps_if (PW.pt (pw_or (pt_not (pt_val (pe_cal C_isWord (hr.mono (by decide)) (by rfl) pass0 (pa_cons (pv 0) (pa_cons (pv 3) pa_nil))))) (pw_or1 (PW.pt (pw_and (pt_cmpR op_gt (pv 2) pe_int (nomark _)) (pw_and1 (pt_cmpR (op_leT hr.units0) (pv 3) (pe_ix ix_tup (pv 1) (pe_op op_sub (pv 2) pe_int) (fun _ _ => rfl)) (nomark _)))))))) (pss_one (ps_ret pe_bl)) pss_nil)))
    (pss_one (ps_ret pe_bl)))), ?_⟩
  have hv : formD K C_Form (qsD qs) B v := hv
  have hv1 : dat K d B v1 := hv1
  have k : ∀ (v : V) (B' H' : Hp), Ext B H B' H' → dat K (.bool (wordsB qs d)) B' v → Q v H' := k
  cases ht : isD "tuple" d with
  | false =>
    have e : wordsB qs d = false := by cases d <;> first | rfl | cases ht
    rw [e] at k
    refine s_ifS (b := true) (Dt.or (a := true) (b := true) (Dt.eq (Dt.not (Dt.tB (De.isi (.var hv1 rfl) (by simp)))) (by rw [ht]; rfl)) fun z => nomatch z) hB (fun _ B1 H1 e1 => ?_) fun z => nomatch z
    exact s_ret (De.bl (K := K)) e1.bh fun v B' H' e h => k v B' H' (e1.trans e) h
  | true =>
    obtain ⟨ds, rfl⟩ : ∃ ds, d = .tuple ds := by cases d <;> first | exact ⟨_, rfl⟩ | cases ht
    have wb : wordsB qs (.tuple ds) = (!decide (ds.length = 0) && (List.range ds.length).all (okA (wordB qs) ltW ds)) := rfl
    refine s_ifS (b := decide ((ds.length : Int) = 0)) (Dt.or (a := false) (Dt.eq (Dt.not (Dt.tB (De.isi (.var hv1 rfl) (by simp)))) rfl) fun _ => Dt.test (De.op (r := rEq) (De.lenT (.var hv1 rfl)) (De.int (n := 0)) Rv.eqI)) hB (fun t B1 H1 e1 => ?_) fun f B1 H1 e1 => ?_
    · have l0 : ds.length = 0 := by simpa using t
      rw [wb, decide_eq_true l0] at k
      exact s_ret (De.bl (K := K)) e1.bh fun v B' H' e h => k v B' H' (e1.trans e) h
    · have l0 : ¬ ds.length = 0 := by
        have := of_decide_eq_false f
        omega
      rw [wb, decide_eq_false l0, Bool.not_false, Bool.true_and] at k
      have hw := Mo.mo e1.bb hv
      have hw1 := Mo.mo e1.bb hv1
      dsimp only [tNext]
      refine s_forS (Di.enumTM (K := K) (as := ds) (f := fun d => d) (De.eq (d := .tuple ds) (.var hw1 rfl) (by rw [List.map_id']))) e1.bh (fun i σ B => ∃ (v2 v3 : Option V), σ = [some v, some v1, v2, v3] ∧ ∀ j, j < i → okA (wordB qs) ltW ds j = true) (fun B' s => ⟨none, none, rfl, fun j h => absurd h (Nat.not_lt_zero j)⟩) ?_ ?_
      · rintro B3 H3 e3 i R x σ' Bc Bn Hn hR ⟨v2, v3, rfl, ok⟩ s e hx
        rw [List.getElem?_map] at hR
        obtain ⟨p, hp, rfl⟩ := Option.map_eq_some_iff.mp hR
        rw [List.getElem?_zipIdx] at hp
        obtain ⟨q, hq, rfl⟩ := Option.map_eq_some_iff.mp hp
        obtain ⟨y, z, hy, hz, go⟩ := gTup2 e.bh hx
        refine go _ ?_
        have hy := dat_int hy
        subst hy
        rw [Nat.zero_add]
        have hz : dat K q Bn z := hz
        have hw := Mo.mo (e3.bb.trans e.bb) hw
        have hw1 := Mo.mo (e3.bb.trans e.bb) hw1
        have il : i < ds.length := (List.getElem?_eq_some_iff.mp hq).1
        have tail : wordB qs q = true → Dt (tAnd (tTest (tOp (rI0 fun i j => V.bl (decide (j < i))) (tVar 2) (tC (.int 0)))) (tTest (tOp (rLeT K) (tVar 3) (tOp (rIxT K) (tVar 1) (tOp (rI0 fun i j => V.int (i - j)) (tVar 2) (tC (.int 1))))))) [some v, some v1, some (.int (i : Int)), some z] Bn (!okA (wordB qs) ltW ds i) := fun wq => by
          cases i with
          | zero =>
            rw [okA_zero hq, wq]
            exact Dt.and (a := false) (b := false) (Dt.eq (Dt.test (K := K) (De.op (.var (Dp.int ((0 : Nat) : Int)) rfl) (De.int (n := 0)) Rv.I0b)) rfl) fun z => nomatch z
          | succ j =>
            have hp : ds[j]? = some ds[j] := List.getElem?_eq_getElem (by omega)
            have wp := okA_ok hp (ok j (Nat.lt_succ_self j))
            rw [okA_succ hp hq, wq, Bool.true_and, ← ltW_le, Bool.not_not]
            refine Dt.and (a := true) (Dt.eq (Dt.test (K := K) (De.op (.var (Dp.int ((j + 1 : Nat) : Int)) rfl) (De.int (n := 0)) Rv.I0b)) (decide_eq_true (by omega))) fun _ => Dt.test (De.op (r := rLeT K) (De.eq (.var hz rfl) (wordB_form wq)) (De.eq (De.op (r := rIxT K) (.var hw1 rfl) (De.eq (De.op (.var (Dp.int ((j + 1 : Nat) : Int)) rfl) .int Rv.I0) (e := .int (j : Int)) (by rw [show ((j + 1 : Nat) : Int) - 1 = (j : Int) by omega])) (Rv.ixTD (d := ds[j]) (atI_nat hp))) (wordB_form wp)) Rv.leT)
        refine s_if (b := !okA (wordB qs) ltW ds i) ?_ e.bh (fun t B5 H5 e5 => ?_) fun f B5 H5 e5 => ⟨B5, e.trans e5, _, _, rfl, fun j hj => ?_⟩
        · cases wq : wordB qs q with
          | false =>
            rw [okA_bad hq wq]
            exact Dt.or (a := true) (b := true) (Dt.eq (Dt.not (Dt.tB (De.isWord (.var hw rfl) (.var hz rfl)))) (by rw [wq]; rfl)) fun z => nomatch z
          | true => exact Dt.or (a := false) (Dt.eq (Dt.not (Dt.tB (De.isWord (.var hw rfl) (.var hz rfl)))) (by rw [wq]; rfl)) fun _ => tail wq
        · have bad : okA (wordB qs) ltW ds i = false := by simpa using t
          have all : (List.range ds.length).all (okA (wordB qs) ltW ds) = false := by
            rw [List.all_eq_false]
            exact ⟨i, List.mem_range.mpr il, by rw [bad]; decide⟩
          rw [all] at k
          exact s_ret (De.bl (K := K)) e5.bh fun v B' H' e6 h => k v B' H' (((e1.trans e3).trans (e.trans e5)).trans e6) h
        · by_cases ji : j = i
          · subst ji
            simpa using f
          · exact ok j (by omega)
      · rintro σ' B' H' e3 ⟨v2, v3, rfl, ok⟩
        rw [List.length_map, List.length_zipIdx] at ok
        rw [List.all_eq_true.mpr fun j hj => ok j (List.mem_range.mp hj)] at k
        exact s_ret (De.bl (K := K)) e3.bh fun v B' H' e h => k v B' H' ((e1.trans e3).trans e) h
theorem sc_isRow : FnScope ["form", "value"] ["form", "value"] (defScope s_isRow) := ⟨rfl, rfl, rfl, by decide +kernel, rfl, by decide +kernel, by decide +kernel⟩
theorem ok_isRow (D : Def K mg "is_row" s_isRow ["form", "value"]) (C_isTupleOf : Cal P w K mg base CX0 1 "is_tuple_of" s_isTupleOf ["value", "many"] (sp_isTupleOf K)) (C_isNumber : Cal P w K mg base CX0 2 "is_number" s_isNumber ["value"] (sp_isNumber K)) (C_areWords : Cal P w K mg base CX0 5 "are_words" s_areWords ["form", "value"] (sp_areWords K C_Form)) : Cal P w K mg base CX0 6 "is_row" s_isRow ["form", "value"] (sp_isRow K C_Form) := by
  refine D.ok sc_isRow (fun vs H Q E h => ?_) (fun cdv f A outer s H vs Q E hr h => ?_)
  · exact pf_len h fun _ => rfl
  replace h := pf2 h
  obtain ⟨v, v1, B, ⟨qs, d⟩, rfl, hB, hv, hv1, _, k⟩ := h
  refine ⟨_, (pss_one (ps_ret (pe_and (pe_cal C_isTupleOf (hr.mono (by decide)) (by rfl) pass0 (pa_cons (pv 1) (pa_cons pe_int pa_nil))) (pe_and (pe_cal C_isNumber (hr.mono (by decide)) (by rfl) pass0 (pa_cons (pe_ix ix_tup (pv 1) pe_int (fun _ _ => rfl)) pa_nil)) (pe_and (pe_cal C_isNumber (hr.mono (by decide)) (by rfl) pass0 (pa_cons (pe_ix ix_tup (pv 1) pe_int (fun _ _ => rfl)) pa_nil)) (pe_one (pe_cal C_areWords (hr.mono (by decide)) (by rfl) pass0 (pa_cons (pv 0) (pa_cons (pe_ix ix_tup (pv 1) pe_int (fun _ _ => rfl)) pa_nil))))))))), ?_⟩
  have hv : formD K C_Form (qsD qs) B v := hv
  have hv1 : dat K d B v1 := hv1
  have k : ∀ (v : V) (B' H' : Hp), Ext B H B' H' → dat K (.bool (rowB qs d)) B' v → Q v H' := k
  cases ht : isTupD d 3 with
  | false =>
    rw [rowB_not ht] at k
    exact s_ret (De.andV (a := false) (b := false) (De.eq (De.isTup (.var hv1 rfl) (De.int (n := 3))) (by rw [ht])) fun z => nomatch z) hB k
  | true =>
    obtain ⟨a, b, c, rfl⟩ := isTup3 ht
    have k : ∀ (v : V) (B' H' : Hp), Ext B H B' H' → dat K (.bool (true && (numD a && (numD b && wordsB qs c)))) B' v → Q v H' := k
    exact s_ret (De.andV (De.isTup (.var hv1 rfl) (De.int (n := 3))) fun _ => De.andV (De.isNum (De.op (r := rIxT K) (.var hv1 rfl) (De.int (n := 0)) (Rv.ixTD (d := a) rfl))) fun _ => De.andV (De.isNum (De.op (r := rIxT K) (.var hv1 rfl) (De.int (n := 1)) (Rv.ixTD (d := b) rfl))) fun _ => De.call (args := fun a : Qs × PyData => [formD K C_Form (qsD a.1), dat K a.2]) (res := fun a => dat K (.bool (wordsB a.1 a.2))) (qs, c) (.cons (.var hv rfl) (.cons (De.op (r := rIxT K) (.var hv1 rfl) (De.int (n := 2)) (Rv.ixTD (d := c) rfl)) .nil)) trivial) hB k
theorem De.isRow {σ : L2.St} {B : Hp} {te tf : TE} {E : XK} {qs : Qs} {d : PyData} (h : De te σ B (formD K C_Form (qsD qs))) (h2 : De tf σ B (dat K d)) : De (tCall (sp_isRow K C_Form) [] E (tCons te (tCons tf tNil))) σ B (dat K (.bool (rowB qs d))) := De.call (args := fun a : Qs × PyData => [formD K C_Form (qsD a.1), dat K a.2]) (res := fun a => dat K (.bool (rowB a.1 a.2))) (qs, d) (.cons h (.cons h2 .nil)) trivial
theorem fldF {σ : L2.St} {B : Hp} {te : TE} {b : Bool} {f r : PyData} (c : CalC P w K mg base "Tally" C_Tally ["form", "rows"]) (h : De te σ B (insR C_Tally [("form", valR K C_Form b f), ("rows", dat K r)])) : De (tFld K te "form") σ B (valR K C_Form b f) := De.fld h c.c (c.na "form" (by simp)) rfl
theorem fldR {σ : L2.St} {B : Hp} {te : TE} {b : Bool} {f r : PyData} (c : CalC P w K mg base "Tally" C_Tally ["form", "rows"]) (h : De te σ B (insR C_Tally [("form", valR K C_Form b f), ("rows", dat K r)])) : De (tFld K te "rows") σ B (dat K r) := De.fld h c.c (c.na "rows" (by simp)) rfl
theorem sc_tallyFault : FnScope ["value", "at", "row"] ["value"] (defScope s_tallyFault) := ⟨rfl, rfl, rfl, by decide +kernel, rfl, by decide +kernel, by decide +kernel⟩
theorem ok_tallyFault (D : Def K mg "tally_fault" s_tallyFault ["value"]) (K_Tally : CalC P w K mg base "Tally" C_Tally ["form", "rows"]) (n_isinstance : mg "isinstance" = none) (C_isForm : Cal P w K mg base CX0 5 "is_form" s_isForm ["value"] (sp_isForm K C_Form)) (n_tuple : mg "tuple" = none) (n_enumerate : mg "enumerate" = none) (C_isRow : Cal P w K mg base CX0 6 "is_row" s_isRow ["form", "value"] (sp_isRow K C_Form)) (t_Tally : IsiC K C_Tally) (u_Tally : NotC K C_Tally) : Cal P w K mg base CX0 7 "tally_fault" s_tallyFault ["value"] (sp_tallyFault K C_Form C_Tally) := by
  refine D.ok sc_tallyFault (fun vs H Q E h => ?_) (fun cdv f A outer s H vs Q E hr h => ?_)
  · exact pf_len h fun _ => rfl
  replace h := pf1 h
  obtain ⟨v, B, t, rfl, hB, hv, sh, k⟩ := h
  refine ⟨_, (pss_cons (ps_if (PW.pt (pw_or (pt_not (pt_val (pe_callB call_isi (by rfl) n_isinstance (by decide +kernel) (pa_cons (pv 0) (pa_cons (pe_glob (by rfl) K_Tally.g (show RelV (.ref C_Tally) (.ref C_Tally) from rfl)) pa_nil))))) (pw_or (pt_not (pt_val (pe_cal C_isForm (hr.mono (by decide)) (by rfl) pass0 (pa_cons (pe_fld (pv 0) rfl) pa_nil)))) (pw_or1 (pt_not (pt_val (pe_callB call_isi (by rfl) n_isinstance (by decide +kernel) (pa_cons (pe_fld (pv 0) rfl) (pa_cons (pe_bltn (by rfl) n_tuple (by decide +kernel) (show RelV (.ty "tuple") (.type "tuple") from rfl)) pa_nil))))))))) (pss_one (ps_ret (pe_un un_neg pe_int))) pss_nil)
    (pss_cons (ps_for PassesOwn.never rfl (pi_enumT (by rfl) n_enumerate (pa_cons (pe_fld (pv 0) rfl) pa_nil)) (pg_tup rfl (pgs_cons (pg_name (i := 1) sc_tallyFault.nd rfl (Or.inl rfl)) (pgs_cons (pg_name (i := 2) sc_tallyFault.nd rfl (Or.inl rfl)) pgs_nil))) (pss_one (ps_if (PW.pt (pw_or (pt_not (pt_val (pe_cal C_isRow (hr.mono (by decide)) (by rfl) pass0 (pa_cons (pe_fld (pv 0) rfl) (pa_cons (pv 2) pa_nil))))) (pw_or1 (PW.pt (pw_and (pt_cmpR op_gt (pv 1) pe_int (nomark _)) (pw_and1 (pt_cmpR op_le (pe_ix ix_tup (pv 2) pe_int (fun _ _ => rfl)) (pe_ix ix_tup (pe_ix ix_tup (pe_fld (pv 0) rfl) (pe_op op_sub (pv 1) pe_int) (fun _ _ => rfl)) pe_int (fun _ _ => rfl)) (nomark _)))))))) (pss_one (ps_ret (pv 1))) pss_nil)))
    (pss_one (ps_ret pe_non)))), ?_⟩
  cases t with
  | dat d =>
    have hv : dat K d B v := hv
    refine s_ifS (b := true) (Dt.or (a := true) (b := true) (Dt.eq (Dt.not (Dt.tB (isiN u_Tally (.var hv rfl)))) rfl) fun z => nomatch z) hB (fun _ B1 H1 e1 => ?_) fun z => nomatch z
    exact s_ret (De.negI (K := K) .int) e1.bh fun v B' H' e h => k v B' H' (e1.trans e) h
  | tal b f r =>
    have hv : insR C_Tally [("form", valR K C_Form b f), ("rows", dat K r)] B v := hv
    have sh : Shorts f := sh
    have k : ∀ (v : V) (B' H' : Hp), Ext B H B' H' → dat K (if isNoneD (valFault b f) then rowsFault (qsOf f) r else .int (-1)) B' v → Q v H' := k
    have isF : De (tCall (sp_isForm K C_Form) [] E0 (tCons (tFld K (tVar 0) "form") tNil)) [some v, none, none] B (dat K (.bool (isNoneD (valFault b f)))) := De.call (args := fun a : Bool × PyData => [valR K C_Form a.1 a.2]) (res := fun a => dat K (.bool (isNoneD (valFault a.1 a.2)))) (b, f) (.cons (fldF K_Tally (.var hv rfl)) .nil) sh
    have isT : Dt (tNot (tB (tCB (rIsi K) (tCons (tVar 0) (tCons (tC (.ref C_Tally)) tNil))))) [some v, none, none] B false := Dt.eq (Dt.not (Dt.tB (isiC K_Tally.c t_Tally (.var hv rfl)))) rfl
    cases nf : isNoneD (valFault b f) with
    | false =>
      rw [nf] at k isF
      refine s_ifS (b := true) (Dt.or (a := false) isT fun _ => Dt.or (a := true) (b := true) (Dt.eq (Dt.not (Dt.tB isF)) rfl) fun z => nomatch z) hB (fun _ B1 H1 e1 => ?_) fun z => nomatch z
      exact s_ret (De.negI (K := K) .int) e1.bh fun v B' H' e h => k v B' H' (e1.trans e) h
    | true =>
      rw [nf] at k isF
      have kq : ∀ (v : V) (B' H' : Hp), Ext B H B' H' → dat K (rowsFault (qsOf f) r) B' v → Q v H' := k
      obtain ⟨rfl, fd⟩ : b = true ∧ faultD f = .none := by
        cases b with
        | false => cases nf
        | true =>
          refine ⟨rfl, ?_⟩
          rcases fault_kinds true f with e | ⟨i, e⟩
          · exact e
          · rw [e] at nf
            cases nf
      obtain ⟨qs, rfl, g⟩ := good_of fd
      rw [qsOf_D] at kq
      cases ht : isD "tuple" r with
      | false =>
        have e : rowsFault qs r = .int (-1) := by cases r <;> first | rfl | cases ht
        rw [e] at kq
        refine s_ifS (b := true) (Dt.or (a := false) isT fun _ => Dt.or (a := false) (Dt.eq (Dt.not (Dt.tB isF)) rfl) fun _ => Dt.eq (Dt.not (Dt.tB (De.isi (fldR K_Tally (.var hv rfl)) (by simp)))) (by rw [ht]; rfl)) hB (fun _ B1 H1 e1 => ?_) fun z => nomatch z
        exact s_ret (De.negI (K := K) .int) e1.bh fun v B' H' e h => kq v B' H' (e1.trans e) h
      | true =>
        obtain ⟨ds, rfl⟩ : ∃ ds, r = .tuple ds := by cases r <;> first | exact ⟨_, rfl⟩ | cases ht
        refine s_skip (Dt.or (a := false) isT fun _ => Dt.or (a := false) (Dt.eq (Dt.not (Dt.tB isF)) rfl) fun _ => Dt.eq (Dt.not (Dt.tB (De.isi (fldR K_Tally (.var hv rfl)) (by simp)))) rfl) hB fun B1 H1 e1 => ?_
        have fe : ∀ o, faultA (rowB qs) ltR ds = o → rowsFault qs (.tuple ds) = (match o with | some i => .int (i : Int) | none => .none) := fun o ho => by
          show (match faultA (rowB qs) ltR ds with | some i => PyData.int (i : Int) | none => .none) = _
          rw [ho]
        have hw := Mo.mo e1.bb hv
        refine s_forS (Di.enumTM (K := K) (as := ds) (f := fun d => d) (De.eq (d := .tuple ds) (fldR K_Tally (.var (i := 0) hw rfl)) (by rw [List.map_id']))) e1.bh (fun i σ B => ∃ (v2 v3 : Option V), σ = [some v, v2, v3] ∧ ∀ j, j < i → okA (rowB qs) ltR ds j = true) (fun B' s => ⟨none, none, rfl, fun j h => absurd h (Nat.not_lt_zero j)⟩) ?_ ?_
        · rintro B3 H3 e3 i R x σ' Bc Bn Hn hR ⟨v2, v3, rfl, ok⟩ s e hx
          rw [List.getElem?_map] at hR
          obtain ⟨p, hp, rfl⟩ := Option.map_eq_some_iff.mp hR
          rw [List.getElem?_zipIdx] at hp
          obtain ⟨q, hq, rfl⟩ := Option.map_eq_some_iff.mp hp
          obtain ⟨y, z, hy, hz, go⟩ := gTup2 e.bh hx
          refine go _ ?_
          have hy := dat_int hy
          subst hy
          rw [Nat.zero_add]
          have hz : dat K q Bn z := hz
          have hw := Mo.mo (e3.bb.trans e.bb) hw
          have il : i < ds.length := (List.getElem?_eq_some_iff.mp hq).1
          have isR : De (tCall (sp_isRow K C_Form) [] E0 (tCons (tFld K (tVar 0) "form") (tCons (tVar 2) tNil))) [some v, some (.int (i : Int)), some z] Bn (dat K (.bool (rowB qs q))) := De.isRow (fldF K_Tally (b := true) (.var hw rfl)) (.var hz rfl)
          refine s_if (b := !okA (rowB qs) ltR ds i) ?_ e.bh (fun t B5 H5 e5 => ?_) fun f B5 H5 e5 => ⟨B5, e.trans e5, _, _, rfl, fun j hj => ?_⟩
          · cases wq : rowB qs q with
            | false =>
              rw [okA_bad hq wq]
              exact Dt.or (a := true) (b := true) (Dt.eq (Dt.not (Dt.tB isR)) (by rw [wq]; rfl)) fun z => nomatch z
            | true =>
              refine Dt.or (a := false) (Dt.eq (Dt.not (Dt.tB isR)) (by rw [wq]; rfl)) fun _ => ?_
              obtain ⟨n, b2, c2, rfl⟩ := rowB_form wq
              cases i with
              | zero =>
                rw [okA_zero hq, wq]
                exact Dt.and (a := false) (b := false) (Dt.eq (Dt.test (K := K) (De.op (.var (Dp.int ((0 : Nat) : Int)) rfl) (De.int (n := 0)) Rv.I0b)) rfl) fun z => nomatch z
              | succ j =>
                have hp : ds[j]? = some ds[j] := List.getElem?_eq_getElem (by omega)
                obtain ⟨n', b', c', ep⟩ := rowB_form (okA_ok hp (ok j (Nat.lt_succ_self j)))
                rw [ep] at hp
                rw [okA_succ hp hq, wq, Bool.true_and]
                have e2 : (!ltR (.tuple [.int n', b', c']) (.tuple [.int n, b2, c2])) = decide (n ≤ n') := by
                  show (!decide (n' < n)) = _
                  rw [Bool.eq_iff_iff, Bool.not_eq_true', decide_eq_false_iff_not, decide_eq_true_eq]
                  omega
                refine Dt.eq (b := decide (n ≤ n')) ?_ e2.symm
                exact Dt.and (a := true) (Dt.eq (Dt.test (K := K) (De.op (.var (Dp.int ((j + 1 : Nat) : Int)) rfl) (De.int (n := 0)) Rv.I0b)) (decide_eq_true (by omega))) fun _ => Dt.test (De.op (De.op (r := rIxT K) (.var hz rfl) (De.int (n := 0)) (Rv.ixTD (d := .int n) rfl)) (De.op (r := rIxT K) (De.op (r := rIxT K) (fldR K_Tally (.var hw rfl)) (De.eq (De.op (.var (Dp.int ((j + 1 : Nat) : Int)) rfl) .int Rv.I0) (e := .int (j : Int)) (by rw [show ((j + 1 : Nat) : Int) - 1 = (j : Int) by omega])) (Rv.ixTD (d := .tuple [.int n', b', c']) (atI_nat hp))) (De.int (n := 0)) (Rv.ixTD (d := .int n') rfl)) Rv.I0b)
          · have bad : okA (rowB qs) ltR ds i = false := by simpa using t
            rw [fe _ (faultA_at il bad ok)] at kq
            exact s_ret (.var (Dp.int (i : Int)) rfl) e5.bh fun v B' H' e6 h => kq v B' H' (((e1.trans e3).trans (e.trans e5)).trans e6) h
          · by_cases ji : j = i
            · subst ji
              simpa using f
            · exact ok j (by omega)
        · rintro σ' B' H' e3 ⟨v2, v3, rfl, ok⟩
          rw [List.length_map, List.length_zipIdx] at ok
          rw [fe _ (faultA_none ok)] at kq
          exact s_ret (De.non (K := K)) e3.bh fun v B' H' e h => kq v B' H' ((e1.trans e3).trans e) h
theorem sc_isTally : FnScope ["value"] ["value"] (defScope s_isTally) := ⟨rfl, rfl, rfl, by decide +kernel, rfl, by decide +kernel, by decide +kernel⟩
theorem ok_isTally (D : Def K mg "is_tally" s_isTally ["value"]) (C_tallyFault : Cal P w K mg base CX0 7 "tally_fault" s_tallyFault ["value"] (sp_tallyFault K C_Form C_Tally)) : Cal P w K mg base CX0 8 "is_tally" s_isTally ["value"] (sp_isTally K C_Form C_Tally) := by
  refine D.ok sc_isTally (fun vs H Q E h => ?_) (fun cdv f A outer s H vs Q E hr h => ?_)
  · exact pf_len h fun _ => rfl
  replace h := pf1 h
  obtain ⟨v, B, t, rfl, hB, hv, sh, k⟩ := h
  refine ⟨_, (pss_one (ps_ret (pe_cmpR op_isN (pe_cal C_tallyFault (hr.mono (by decide)) (by rfl) pass0 (pa_cons (pv 0) pa_nil)) pe_non (nomark _)))), ?_⟩
  exact s_ret (De.op (De.call (args := fun t : TV => [tvR K C_Form C_Tally t]) (res := fun t => dat K (tvFault t)) t (.cons (.var hv rfl) .nil) sh) .non Rv.isNone) hB k
theorem sc_needTally : FnScope ["value", "fault"] ["value"] (defScope s_needTally) := ⟨rfl, rfl, rfl, by decide +kernel, rfl, by decide +kernel, by decide +kernel⟩
theorem ok_needTally (D : Def K mg "need_tally" s_needTally ["value"]) (C_tallyFault : Cal P w K mg base CX0 7 "tally_fault" s_tallyFault ["value"] (sp_tallyFault K C_Form C_Tally)) (Z_InvalidSheets : Err P w K mg base "InvalidSheets" "at" C_InvalidSheets (topE C_BlankError)) : Cal P w K mg base (L2.CX P w) 8 "need_tally" s_needTally ["value"] (sp_needTally K C_Form C_Tally C_InvalidSheets) := by
  refine D.okX sc_needTally (fun vs H Q E h => ?_) (fun cdv f A outer s H vs Q E hr h => ?_)
  · obtain ⟨v, B, t, rfl, _⟩ := h
    rfl
  obtain ⟨v, B, t, rfl, hB, hv, sh, kr, kx⟩ := h
  refine ⟨_, (pss_cons (ps_set (i := 1) sc_needTally.nd rfl (Or.inl rfl) (pe_cal C_tallyFault (hr.mono (by decide)) (by rfl) pass0 (pa_cons (pv 0) pa_nil)))
    (pss_one (ps_if (pt_cmpR op_notN (pv 1) pe_non (nomark _)) (pss_one (ps_raise rfl (takes_of rfl rfl rfl rfl) (pmk_E Z_InvalidSheets hr (by decide) rfl (pa_cons (pv 1) pa_nil)))) pss_nil))), ?_⟩
  refine s_set (De.call (args := fun t : TV => [tvR K C_Form C_Tally t]) (res := fun t => dat K (tvFault t)) t (.cons (.var hv rfl) .nil) sh) hB fun u B1 H1 e1 h1 => ?_
  have h1 : dat K (tvFault t) B1 u := h1
  rcases tvFault_kinds t with e | ⟨i, e⟩
  · rw [e] at h1
    refine s_if (b := false) (Dt.eq (Dt.test (K := K) (De.op (.var h1 rfl) .non Rv.notNone)) rfl) e1.bh (fun z => nomatch z) fun _ B2 H2 e2 => ?_
    exact kr e .non B2 H2 (e1.trans e2) .non
  · rw [e] at h1
    refine s_if (b := true) (Dt.eq (Dt.test (K := K) (De.op (.var h1 rfl) .non Rv.notNone)) rfl) e1.bh (fun _ B2 H2 e2 => ?_) fun z => nomatch z
    have h1 := dat_int h1
    subst h1
    exact ⟨.int i, rfl, .int i, rfl, fun dx hdx => kx i e B2 H2 dx (e1.trans e2) hdx⟩
end
end K30

set_option Elab.async false
set_option linter.all false
set_option maxRecDepth 100000
set_option maxHeartbeats 4000000
/-! the deal of a law: _law_source, _law_any, _law_of. -/
namespace K30
open PySem PySem.Spec PyProof.Rows L2 Wb
theorem ints_dp {K : PySem.W.Frag} {H : Hp} : ∀ cs : List Int, DpAll K H (cs.map V.int) (cs.map PyData.int)
  | [] => .nil
  | z :: cs => .cons (.int z) (ints_dp cs)
theorem ints_lay : ∀ cs : List Int, PyData.canLayAll0 (cs.map PyData.int) = true
  | [] => by simp [PyData.canLayAll0]
  | z :: cs => by simp [PyData.canLayAll0, PyData.canLay0, ints_lay cs]
theorem ints_depth : ∀ cs : List Int, PyData.depthAll (cs.map PyData.int) = 0
  | [] => by simp [PyData.depthAll]
  | z :: cs => by simp [PyData.depthAll, PyData.depth, ints_depth cs]
theorem ints_shaped (cs : List Int) : SeqAt.shaped (.list (cs.map PyData.int)) = true := by
  show (PyData.canLay0 (.list (cs.map PyData.int)) && decide (PyData.depth (.list (cs.map PyData.int)) ≤ 64)) = true
  rw [Bool.and_eq_true]
  refine ⟨by simp only [PyData.canLay0]; exact ints_lay cs, decide_eq_true ?_⟩
  simp only [PyData.depth, ints_depth]
  omega
theorem ints_eqv (cs : List Int) : PyData.eqv (.list (cs.map PyData.int)) (.list []) = cs.isEmpty := by
  cases cs with
  | nil => simp [PyData.eqv, PyData.eqvAll]
  | cons z r => simp [PyData.eqv, PyData.eqvAll]

section
variable {P : Program} {w : World} {K : PySem.W.Frag} {mg : Str → Option Value} {base : Heap}
theorem scAny : FnScope ["deal", "bound", "rest"] ["deal", "bound"] (defScope s_any) := ⟨rfl, rfl, rfl, by decide +kernel, rfl, by decide +kernel, by decide +kernel⟩

/-- how many cells are left -/
def left (c : Addr) (H : Hp) : Nat := match H c with
  | some (.lst xs) => xs.length
  | _ => 0

theorem okf_any {f : Addr} {fd : FuncData} (F : Fun K "_law_any" "_law_any" s_any f fd) (noInt : mg "int" = none) : FnOk P w K mg base CX0 1 f fd ["deal", "bound"] spAny := by
  refine F.ok scAny (fun vs H Q E h => ?_) (fun cdv A outer s H vs Q E hr h => ?_)
  · obtain ⟨d, c, bound, rfl, _⟩ := h
    rfl
  obtain ⟨d, c, bound, rfl, D, b0, b1, k⟩ := h
  refine ⟨_, pss_cons (ps_while PassesOwn.never (PW.pt (pw_and (pt_cmpR (op_neD hr.units) (pe_ix ix_list (pv 0) pe_int (fun _ _ => rfl)) (pe_lst pa_nil) (nomark _))
        (pw_and1 (pt_cmpR op_eq (pe_ix ix_list (pe_ix ix_list (pv 0) pe_int (fun _ _ => rfl)) (pe_un un_neg pe_int) (fun _ _ => rfl)) pe_int (nomark _)))))
      (pss_one (ps_expr (pe_bm0 PySem.F.plainAttrs_list PySem.F.slot_list_pop PySem.F.type_list_pop mt_pop (pe_ix ix_list (pv 0) pe_int (fun _ _ => rfl))))))
    (pss_cons (ps_if (pt_cmpR (op_neD hr.units) (pe_ix ix_list (pv 0) pe_int (fun _ _ => rfl)) (pe_lst pa_nil) (nomark _))
      (pss_cons (ps_set (i := 2) scAny.nd rfl (Or.inl rfl) (pe_callTy call_int1 (by rfl) noInt (by decide +kernel) (pa_cons (pe_bm0 PySem.F.plainAttrs_list PySem.F.slot_list_pop PySem.F.type_list_pop mt_pop (pe_ix ix_list (pv 0) pe_int (fun _ _ => rfl))) pa_nil)))
      (pss_cons (ps_expr (pe_bm PySem.F.plainAttrs_list PySem.F.slot_list_append PySem.F.type_list_append mt_append (pe_ix ix_list (pv 0) pe_int (fun _ _ => rfl)) (pa_cons (pe_op op_fdivW (pv 2) (pv 1)) pa_nil)))
      (pss_one (ps_ret (pe_op op_mod (pv 2) (pv 1)))))) pss_nil)
    (pss_cons (ps_asg (pe_op op_mod (pe_callTy call_int1 (by rfl) noInt (by decide +kernel) (pa_cons (pe_op op_add (pe_op op_mul (pe_ix ix_list (pv 0) pe_int (fun _ _ => rfl)) pe_int) pe_int) pa_nil)) pe_int) (pg_sub (pv 0) pe_int set_list))
    (pss_one (ps_ret (pe_op op_mod (pe_callTy call_int1 (by rfl) noInt (by decide +kernel) (pa_cons (pe_op op_fdiv (pe_ix ix_list (pv 0) pe_int (fun _ _ => rfl)) pe_int) pa_nil)) (pv 1))))))  , ?_⟩
  -- the cells that are 0 go
  refine whileI (fun σ H' => σ = [some (.ref d), some (.int bound), none] ∧ Deal H' d c ∧ Same (off H d c) (off H' d c))
    (fun σ H' => σ = [some (.ref d), some (.int bound), none] ∧ Deal H' d c ∧ Same (off H d c) (off H' d c)) (fun _ H' => left c H') ⟨rfl, D, Same.refl _⟩ ?_ ?_
  · -- behind it
    rintro σ G ⟨rfl, D', S'⟩
    obtain ⟨cs, mix, h1, h2, short, nn, m0, m1⟩ := D'.ex
    refine ⟨_, rfl, d, [.ref c, .int mix], 0, .ref c, rfl, rfl, SqL.of h1, rfl, ?_⟩
    refine ⟨Nat.zero_le _, fun l hl => ?_⟩
    have Sl : Same G (upd G l (.lst [])) := new_same hl
    have D2 : Deal (upd G l (.lst [])) d c := D'.same Sl
    have S2 : Same (off H d c) (off (upd G l (.lst [])) d c) := S'.trans (off_mono Sl)
    have h1' := Sl _ _ h1
    have h2' := Sl _ _ h2
    have ne := D'.ne
    refine ⟨.list (cs.map PyData.int), .list [], .lst (SqL.of h2') (ints_dp cs), .lst (SqL.of upd_same) .nil, ints_shaped cs, rfl, _, rfl, ?_⟩
    rw [ints_eqv]
    generalize upd G l (.lst []) = G2 at *
    rcases nil_or_last cs with rfl | ⟨ini, z, rfl⟩
    · -- no cell: the number goes on
      refine iteF ?_
      refine ⟨_, rfl, d, [.ref c, .int mix], 1, .int mix, rfl, rfl, SqL.of h1', rfl, ?_⟩
      refine ⟨_, _, rfl, rfl, .inl ⟨by omega, by omega⟩, _, _, rfl, rfl, .inl ⟨_, rfl, ?_⟩⟩
      refine ⟨_, _, rfl, rfl, (by show (0 : Int) < 2147483647; decide), ?_⟩
      refine ⟨_, rfl, d, [.ref c, .int mix], 1, 1, rfl, rfl, h1', rfl, ?_⟩
      obtain ⟨mix2, hm⟩ : ∃ mix2, mix2 = (mix * 48271 + 41) % 2147483647 := ⟨_, rfl⟩
      have at2 : upd G2 d (.lst ([V.ref c, V.int mix].set 1 (V.int ((mix * 48271 + 41) % 2147483647)))) d = some (.lst [.ref c, .int mix2]) := by
        rw [upd_same, hm]
        rfl
      have q0 : 0 ≤ mix2 := by omega
      have q1 : mix2 < 2147483647 := by omega
      refine ⟨_, rfl, d, [.ref c, .int mix2], 1, .int mix2, rfl, rfl, SqL.of at2, rfl, ?_⟩
      refine ⟨_, _, rfl, rfl, ⟨by decide, by decide⟩, .inl ⟨_, rfl, ?_⟩⟩
      refine ⟨_, rfl, _, _, rfl, rfl, b0, ?_⟩
      refine k _ _ (Int.emod_nonneg _ (by omega)) (Int.emod_lt_of_pos _ b0) ⟨[], mix2, at2, ?_, short, nn, q0, q1⟩ ?_
      · show upd G2 d _ c = _
        rw [upd_ne ne.symm]
        exact h2'
      · show Same _ (off (upd G2 d _) d c)
        rw [off_d]
        exact S2
    · -- a cell
      have e : (ini ++ [z]).isEmpty = false := by simp
      rw [e]
      refine iteT ?_
      have em : (ini ++ [z]).map V.int = ini.map V.int ++ [V.int z] := by simp
      rw [em] at h2'
      have z0 : 0 ≤ z := nn z (by simp)
      refine ⟨_, rfl, d, [.ref c, .int mix], 0, .ref c, rfl, rfl, SqL.of h1', rfl, .inl ⟨rfl, _, SqL.of h2'⟩, c, _, .int z, rfl, rfl, h2', by simp, .inl ⟨_, rfl, ?_⟩⟩
      rw [List.dropLast_concat]
      refine ⟨_, rfl, d, [.ref c, .int mix], 0, .ref c, rfl, rfl, SqL.of ((upd_ne ne).trans h1'), rfl, .inl ⟨rfl, _, SqL.of upd_same⟩, ?_⟩
      refine ⟨_, rfl, _, rfl, _, _, rfl, rfl, ?_, c, _, _, rfl, rfl, upd_same, ?_, ?_⟩
      · exact wide_div b0 (b := 300) (by omega) (by decide) (by decide)
      · rw [List.length_map, sizeLine_eq]
        simp at short
        omega
      refine ⟨_, rfl, _, rfl, _, _, rfl, rfl, b0, ?_⟩
      refine k _ _ (Int.emod_nonneg _ (by omega)) (Int.emod_lt_of_pos _ b0) ⟨ini ++ [z / bound], mix, ?_, ?_, ?_, ?_, m0, m1⟩ ?_
      · rw [upd_ne ne, upd_ne ne]
        exact h1'
      · rw [upd_same]
        simp
      · simpa using short
      · intro y hy
        rcases List.mem_append.mp hy with h | h
        · exact nn y (List.mem_append_left _ h)
        · simp at h
          rw [h]
          exact Int.ediv_nonneg z0 (by omega)
      · rw [off_c, off_c]
        exact S2
  · -- a turn
    rintro σ H' ⟨rfl, D', S'⟩ Y Z hY hZ
    obtain ⟨cs, mix, h1, h2, short, nn, m0, m1⟩ := D'.ex
    refine ⟨_, rfl, d, [.ref c, .int mix], 0, .ref c, rfl, rfl, SqL.of h1, rfl, ?_⟩
    refine ⟨Nat.zero_le _, fun l hl => ?_⟩
    have Sl : Same H' (upd H' l (.lst [])) := new_same hl
    have D2 : Deal (upd H' l (.lst [])) d c := D'.same Sl
    have S2 : Same (off H d c) (off (upd H' l (.lst [])) d c) := S'.trans (off_mono Sl)
    have h1' := Sl _ _ h1
    have h2' := Sl _ _ h2
    have len2 : left c H' = cs.length := by
      unfold left
      rw [h2]
      simp
    refine ⟨.list (cs.map PyData.int), .list [], .lst (SqL.of h2') (ints_dp cs), .lst (SqL.of upd_same) .nil, ints_shaped cs, rfl, _, rfl, ?_⟩
    rw [ints_eqv]
    generalize upd H' l (.lst []) = G at *
    rcases nil_or_last cs with rfl | ⟨ini, z, rfl⟩
    · refine iteF (iteF ?_)
      exact hZ _ ⟨rfl, D2, S2⟩
    · have e : (ini ++ [z]).isEmpty = false := by simp
      rw [e]
      refine iteT ?_
      have em : (ini ++ [z]).map V.int = ini.map V.int ++ [V.int z] := by simp
      rw [em] at h2'
      refine ⟨_, rfl, d, [.ref c, .int mix], 0, .ref c, rfl, rfl, SqL.of h1', rfl, 1, rfl, c, ini.map V.int ++ [V.int z], -1, .int z, rfl, rfl, SqL.of h2', atI_last _ _, rfl, _, rfl, ?_⟩
      refine ite2 (fun hz => ?_) (fun hz => ?_)
      · refine hY _ ?_
        refine ⟨_, rfl, d, [.ref c, .int mix], 0, .ref c, rfl, rfl, SqL.of h1', rfl, .inl ⟨rfl, _, SqL.of h2'⟩, c, _, .int z, rfl, rfl, h2', by simp, ?_⟩
        have ne := D2.ne
        refine ⟨⟨rfl, ⟨ini, mix, ?_, ?_, ?_, fun y hy => nn y (List.mem_append_left _ hy), m0, m1⟩, ?_⟩, ?_⟩
        · rw [upd_ne ne]
          exact h1'
        · rw [upd_same, List.dropLast_concat]
        · simp at short
          omega
        · rw [off_c]
          exact S2
        · rw [len2]
          unfold left
          rw [upd_same, List.dropLast_concat]
          simp
      · exact hZ _ ⟨rfl, D2, S2⟩
end
section
variable {P : Program} {w : World} {K : PySem.W.Frag} {mg : Str → Option Value} {base : Heap}
theorem scOf : FnScope ["deal", "some"] ["deal", "some"] (defScope s_of) := ⟨rfl, rfl, rfl, by decide +kernel, rfl, by decide +kernel, by decide +kernel⟩
theorem okf_of {f fA : Addr} {fd fdA : FuncData} (F : Fun K "_law_of" "_law_of" s_of f fd) (GA : FnOk P w K mg base CX0 1 fA fdA ["deal", "bound"] spAny) (mA : mg "_law_any" = some (.ref fA)) (kA : PySem.W.keepIn K (.ref fA) = true) (bA : Binds K fdA ["deal", "bound"] [])
    (noLen : mg "len" = none) : FnOk P w K mg base CX0 2 f fd ["deal", "some"] (spOf K) := by
  refine F.ok scOf (fun vs H Q E h => ?_) (fun cdv A outer s H vs Q E hr h => ?_)
  · obtain ⟨d, c, x, rfl, _⟩ := h
    rfl
  obtain ⟨d, c, x, rfl, D, k⟩ := h
  refine ⟨_, pss_one (ps_ret (pe_ix ix_seq (pv 1) (pe_call GA hr rfl mA kA bA .nil pass0 (pa_cons (pv 0) (pa_cons (pe_callB call_len (by rfl) noLen (by decide +kernel) (pa_cons (pv 1) pa_nil)) pa_nil))) (fun _ _ => rfl))), ?_⟩
  rcases k with ⟨p, xs, rfl, hs, ne, few, k⟩ | ⟨p, xs, rfl, hs, ne, few, k⟩ | ⟨z, rfl, ne, few, k⟩
  · have pos : 0 < xs.length := List.length_pos_iff.mpr ne
    refine ⟨_, rfl, _, rfl, _, rfl, _, xs.length, rfl, .inl ⟨xs, (off_le H d c).seq hs, rfl⟩, d, c, xs.length, rfl, D, by omega, by omega, fun r H' r0 r1 D' S' => ?_⟩
    obtain ⟨v, hv, at_⟩ := item_at r0 r1
    exact .inl ⟨p, xs, r, v, rfl, rfl, (off_le H' d c).seq (S'.seq hs), at_, k v H' hv D' S'⟩
  · have pos : 0 < xs.length := List.length_pos_iff.mpr ne
    refine ⟨_, rfl, _, rfl, _, rfl, _, xs.length, rfl, .inr ⟨xs, seqT (off_le H d c) hs, rfl⟩, d, c, xs.length, rfl, D, by omega, by omega, fun r H' r0 r1 D' S' => ?_⟩
    obtain ⟨v, hv, at_⟩ := item_at r0 r1
    exact .inr (.inl ⟨p, xs, r, v, rfl, rfl, seqT (off_le H' d c) (seqT S' hs), at_, k v H' hv D' S'⟩)
  · have line := sizeLine_eq
    refine ⟨_, rfl, _, rfl, _, rfl, _, z.length, rfl, ⟨by omega, rfl⟩, d, c, z.length, rfl, D, by omega, by omega, fun r H' r0 r1 D' S' => ?_⟩
    obtain ⟨j, rfl⟩ := Int.eq_ofNat_of_zero_le r0
    have hj : j < z.cps.toList.length := by
      have e : z.cps.toList.length = z.length := by simp [Str.length]
      omega
    exact .inr (.inr ⟨z, (j : Int), z.cps.toList[j], rfl, rfl, by omega, atI_nat (List.getElem?_eq_getElem hj), k _ H' (List.getElem_mem hj) D' S'⟩)

/-- _law_source(script): a new deal -/
def spSource (K : PySem.W.Frag) : Sp := fun vs H Q _ => ∃ (a : Addr) (ns : List Int), vs = [.ref a] ∧ SqL K H a (ns.map V.int) ∧ ns.length ≤ 63 ∧
  ∀ (d c : Addr) (H' : Hp), H d = none → H c = none → Deal H' d c → Same H H' → Q (.ref d) H'
theorem scSource : FnScope ["script", "cells", "blend", "cell"] ["script"] (defScope s_source) := ⟨rfl, rfl, rfl, by decide +kernel, rfl, by decide +kernel, by decide +kernel⟩
theorem okf_source {f : Addr} {fd : FuncData} (F : Fun K "_law_source" "_law_source" s_source f fd) (noInt : mg "int" = none) (noAbs : mg "abs" = none) : FnOk P w K mg base CX0 1 f fd ["script"] (spSource K) := by
  refine F.ok scSource (fun vs H Q E h => ?_) (fun cdv A outer s H vs Q E hr h => ?_)
  · obtain ⟨a, ns, rfl, _⟩ := h
    rfl
  obtain ⟨a, ns, rfl, hs, few, k⟩ := h
  refine ⟨_, pss_cons (ps_setLc (i := 1) (own := [("cell", 3)]) (g := gName 3) (tt := tYes) rfl scSource.nd rfl rfl (sw_true rfl rfl rfl (by decide +kernel)) (pi_list (pe_slice sl_list (pv 0) po_none (po_some pe_int)))
      (blkOk_by (own := [("cell", 3)]) (N := ["script", "cells", "blend", "cell"]) (sc := defScope s_source) (by decide +kernel)) (fun _ _ _ _ _ => pg_name (i := 3) scSource.nd rfl (Or.inl rfl)) (fun _ _ _ _ _ => pts_nil)
      (fun _ _ _ _ _ => pe_callB call_abs (by rfl) noAbs (by decide +kernel) (pa_cons (pe_callTy call_int1 (by rfl) noInt (by decide +kernel) (pa_cons (pv 3) pa_nil)) pa_nil)))
    (pss_cons (ps_set (i := 2) scSource.nd rfl (Or.inl rfl) pe_int)
    (pss_cons (ps_for PassesOwn.never rfl (pi_list (pv 1)) (pg_name (i := 3) scSource.nd rfl (Or.inl rfl))
      (pss_one (ps_set (i := 2) scSource.nd rfl (Or.inl rfl) (pe_op op_mod (pe_callTy call_int1 (by rfl) noInt (by decide +kernel) (pa_cons (pe_op op_add (pe_op op_add (pe_op op_mul (pv 2) pe_int) (pe_op op_mod (pv 3) pe_int)) pe_int) pa_nil)) pe_int))))
    (pss_one (ps_ret (pe_lst (pa_cons (pe_revL (pe_lc (own := [("cell", 3)]) (g := gName 3) rfl scSource.nd (pi_list (pv 1))
      (blkOk_by (own := [("cell", 3)]) (N := ["script", "cells", "blend", "cell"]) (sc := defScope s_source) (by decide +kernel)) (fun _ _ _ _ _ => pg_name (i := 3) scSource.nd rfl (Or.inl rfl))
      (fun _ _ _ _ _ => pts_one (pt_cmpR op_ge (pv 3) (pe_op op_pow pe_int pe_int) (nomark _))) (fun _ _ _ _ _ => pv 3))) (pa_cons (pv 2) pa_nil))))))), ?_⟩
  -- the slice
  refine ⟨_, rfl, 63, rfl, a, ns.map V.int, rfl, hs, fun p hp => ?_⟩
  obtain ⟨ms, em, fewM⟩ : ∃ ms : List Int, cutV (ns.map V.int) none (some 63) = ms.map V.int ∧ ms.length ≤ 63 := by
    refine ⟨(ns.drop (HT.sIx (ns.map V.int).length 0 none)).take (HT.sIx (ns.map V.int).length (ns.map V.int).length (some 63) - HT.sIx (ns.map V.int).length 0 none), ?_, ?_⟩
    · unfold cutV
      rw [List.map_take, List.map_drop]
    · rw [List.length_take, List.length_drop]
      omega
  rw [em]
  have Sp : Same H (upd H p (.lst (ms.map V.int))) := new_same hp
  have atp : upd H p (.lst (ms.map V.int)) p = some (.lst (ms.map V.int)) := upd_same
  generalize upd H p (.lst (ms.map V.int)) = H1 at *
  refine ⟨p, rfl, ⟨_, SqL.of atp⟩, fun D hD => ?_⟩
  -- the cells
  refine lc_list (K := K) (a := p) (xs := ms.map V.int) (fun i G => ∃ acc : List Int, G D = some (.lst (acc.map V.int)) ∧ acc.length = i ∧ (∀ z ∈ acc, 0 ≤ z) ∧ Same H1 G)
    ⟨[], upd_same, rfl, (fun z hz => nomatch hz), new_same hD⟩ (fun i G _ ⟨_, _, _, _, sg⟩ => sg.seq (SqL.of atp)) ?_ ?_
  · rintro i x G hx ⟨acc, hG, hi, hnn, sg⟩
    have hi' : i < ms.length := by
      have := (List.getElem?_eq_some_iff.mp hx).1
      simpa using this
    obtain ⟨z, rfl⟩ : ∃ z, x = V.int z := by
      rw [List.getElem?_map] at hx
      obtain ⟨z, _, e⟩ := Option.map_eq_some_iff.mp hx
      exact ⟨z, e.symm⟩
    refine ⟨rfl, ?_⟩
    refine ⟨_, rfl, .inl ⟨z, rfl, z, rfl, acc.map V.int, hG, ?_, acc ++ [if z < 0 then -z else z], ?_, ?_, ?_, ?_⟩⟩
    · rw [List.length_map, sizeLine_eq]
      omega
    · rw [upd_same]
      simp
    · simp [hi]
    · intro y hy
      rcases List.mem_append.mp hy with q | q
      · exact hnn y q
      · simp at q
        rw [q]
        split <;> omega
    · intro b' o e
      rw [upd_ne (ne_of_none e hD)]
      exact sg b' o e
  rintro G ⟨acc, hG, hi, hnn, sg⟩
  rw [List.length_map] at hi
  -- the first number
  refine ⟨_, rfl, D, rfl, ⟨_, SqL.of hG⟩, for_list (K := K) (a := D) (xs := acc.map V.int) (fun i σ G' => ∃ (mix : Int) (v : Option V), σ = [some (.ref a), some (.ref D), some (.int mix), v] ∧ 0 ≤ mix ∧ mix < 2147483647 ∧ G' = G)
    ⟨_, none, rfl, by omega, by omega, rfl⟩ (fun i σ G' _ ⟨_, _, _, _, _, e⟩ => by rw [e]; exact SqL.of hG) ?_ ?_⟩
  · rintro i y σ G' hy ⟨mix, v, rfl, q0, q1, rfl⟩
    obtain ⟨z, rfl⟩ : ∃ z, y = V.int z := by
      rw [List.getElem?_map] at hy
      obtain ⟨z, _, e⟩ := Option.map_eq_some_iff.mp hy
      exact ⟨z, e.symm⟩
    refine ⟨_, rfl, _, _, rfl, rfl, .inl ⟨by omega, by omega⟩, _, rfl, _, _, rfl, rfl, (by show (0 : Int) < 2147483549; decide), _, _, rfl, rfl, _, _, rfl, rfl, .inl ⟨_, rfl, ?_⟩⟩
    refine ⟨_, _, rfl, rfl, (by show (0 : Int) < 2147483647; decide), ?_⟩
    exact ⟨_, _, rfl, Int.emod_nonneg _ (by decide), Int.emod_lt_of_pos _ (by decide), rfl⟩
  rintro σ G' ⟨mix, v, rfl, q0, q1, rfl⟩
  -- the great cells, turned
  refine ⟨_, rfl, D, rfl, ⟨_, SqL.of hG⟩, fun D2 hD2 => ?_⟩
  refine lc_list (K := K) (a := D) (xs := acc.map V.int) (fun i G2 => ∃ big : List Int, G2 D2 = some (.lst (big.map V.int)) ∧ big.length ≤ i ∧ (∀ z ∈ big, 0 ≤ z) ∧ Same G' G2)
    ⟨[], upd_same, Nat.le_refl _, (fun z hz => nomatch hz), new_same hD2⟩ (fun i G2 _ ⟨_, _, _, _, s2⟩ => s2.seq (SqL.of hG)) ?_ ?_
  · rintro i x G2 hx ⟨big, hB, hl, hbn, s2⟩
    have hx2 := hx
    have hi' : i < acc.length := by
      have := (List.getElem?_eq_some_iff.mp hx).1
      simpa using this
    obtain ⟨z, hz, rfl⟩ : ∃ z, z ∈ acc ∧ x = V.int z := by
      rw [List.getElem?_map] at hx
      obtain ⟨z, hz, e⟩ := Option.map_eq_some_iff.mp hx
      exact ⟨z, List.mem_of_getElem? hz, e.symm⟩
    refine ⟨rfl, _, rfl, _, _, rfl, rfl, ⟨by decide, by decide, by decide⟩, _, _, rfl, rfl, _, rfl, ?_⟩
    refine ite2 (fun _ => ?_) (fun _ => ?_)
    · refine ⟨_, rfl, big.map V.int, hB, ?_, big ++ [z], ?_, ?_, ?_, ?_⟩
      · rw [List.length_map, sizeLine_eq]
        omega
      · rw [upd_same]
        simp
      · simp
        omega
      · intro y hy
        rcases List.mem_append.mp hy with q | q
        · exact hbn y q
        · simp at q
          rw [q]
          exact hnn z hz
      · intro b' o e
        rw [upd_ne (ne_of_none e hD2)]
        exact s2 b' o e
    · exact ⟨big, hB, by omega, hbn, s2⟩
  rintro G2 ⟨big, hB, hl, hbn, s2⟩
  rw [List.length_map] at hl
  refine ⟨D2, _, rfl, SqL.of hB, fun c hc => ?_⟩
  have Sc : Same G2 (upd G2 c (.lst (big.map V.int).reverse)) := new_same hc
  have atc : upd G2 c (.lst (big.map V.int).reverse) c = some (.lst (big.reverse.map V.int)) := by rw [upd_same, List.map_reverse]
  generalize upd G2 c (.lst (big.map V.int).reverse) = G3 at *
  refine ⟨_, rfl, (by show 2 ≤ sizeLine; decide), fun d hd => ?_⟩
  have S3 : Same H G3 := ((Sp.trans sg).trans s2).trans Sc
  have S4 : Same G3 (upd G3 d (.lst [.ref c, .int mix])) := new_same hd
  refine k d c _ (S3.free hd) (((Sp.trans sg).trans s2).free hc) ⟨big.reverse, mix, upd_same, S4 _ _ atc, ?_, ?_, q0, q1⟩ (S3.trans S4)
  · simp
    omega
  · intro z hz
    exact hbn z (List.mem_reverse.mp hz)
end
section
variable {P : Program} {w : World} {K : PySem.W.Frag} {mg : Str → Option Value} {base : Heap}
theorem ok_any (D : Def K mg "_law_any" s_any ["deal", "bound"]) (n_int : mg "int" = none) : Cal P w K mg base CX0 1 "_law_any" s_any ["deal", "bound"] spAny := by
  obtain ⟨f, fd, F, m, b, o⟩ := D
  exact ⟨f, fd, okf_any F n_int, m, F.kp, b, o⟩
theorem ok_of (D : Def K mg "_law_of" s_of ["deal", "some"]) (A : Cal P w K mg base CX0 1 "_law_any" s_any ["deal", "bound"] spAny) (n_len : mg "len" = none) : Cal P w K mg base CX0 2 "_law_of" s_of ["deal", "some"] (spOf K) := by
  obtain ⟨f, fd, F, m, b, o⟩ := D
  obtain ⟨fA, fdA, GA, mA, kA, bA, _⟩ := A
  exact ⟨f, fd, okf_of F GA mA kA bA n_len, m, F.kp, b, o⟩
theorem ok_source (D : Def K mg "_law_source" s_source ["script"]) (n_int : mg "int" = none) (n_abs : mg "abs" = none) : Cal P w K mg base CX0 1 "_law_source" s_source ["script"] (spSource K) := by
  obtain ⟨f, fd, F, m, b, o⟩ := D
  exact ⟨f, fd, okf_source F n_int n_abs, m, F.kp, b, o⟩
end
end K30

set_option Elab.async false
set_option linter.all false
set_option maxRecDepth 100000
set_option maxHeartbeats 4000000
/-! K30f: drawn names, forms, rows. -/
namespace K30
open PySem PySem.Spec PyProof.Rows L2 Wb Wv Fm Ta
abbrev wdD (w : Wd) : PyData := wordD w
def ltD (x : Lt) : PyData := .tuple [.int x.1, .int x.2.1, wdD x.2.2]
def rwD (r : Rw) : PyData := .tuple [.int r.1, .int r.2.1, .tuple (r.2.2.map wdD)]
def rwsD (rs : List Rw) : PyData := .tuple (rs.map rwD)
def sqD (b : Bool) (ds : List PyData) : PyData := if b then .list ds else .tuple ds
def tallyR (K : PySem.W.Frag) (CF CT : Addr) (qs : Qs) (ls : List Lt) : Rel := insR CT [("form", formR K CF qs), ("rows", dat K (rwsD (tally ls)))]
instance {K : PySem.W.Frag} {CF CT : Addr} {qs : Qs} {ls : List Lt} : Mo (tallyR K CF CT qs ls) := by unfold tallyR; infer_instance
theorem ints_of {K : PySem.W.Frag} {B : Hp} : ∀ {w : Wd} {xs : List V}, DpAll K B xs (w.map .int) → xs = w.map V.int
  | [], _, .nil => rfl
  | i :: w, _, .cons h t => by
    cases h
    rw [List.map_cons, ints_of t]
theorem dat_wd {K : PySem.W.Frag} {B : Hp} {v : V} {w : Wd} (h : dat K (wdD w) B v) : ∃ b, v = .ref b ∧ KeyAt K B (wk w) b := by
  cases h with
  | tup hs hd =>
    refine ⟨_, rfl, ?_⟩
    have := ints_of hd
    unfold KeyAt wk
    rw [List.map_map]
    exact this ▸ hs
theorem lay_map {α : Type} {f : α → PyData} : ∀ {l : List α}, (∀ x ∈ l, PyData.canLay0 (f x) = true) → PyData.canLayAll0 (l.map f) = true
  | [], _ => rfl
  | x :: l, h => by
    rw [List.map_cons]
    simp only [PyData.canLayAll0, h x List.mem_cons_self, lay_map fun y hy => h y (List.mem_cons_of_mem _ hy), Bool.and_self]
theorem depth_map {α : Type} {f : α → PyData} {n : Nat} : ∀ {l : List α}, (∀ x ∈ l, (f x).depth ≤ n) → PyData.depthAll (l.map f) ≤ n
  | [], _ => Nat.zero_le _
  | x :: l, h => by
    rw [List.map_cons]
    simp only [PyData.depthAll]
    exact Nat.max_le.mpr ⟨h x List.mem_cons_self, depth_map fun y hy => h y (List.mem_cons_of_mem _ hy)⟩
theorem lay_word (x : Wd) : PyData.canLay0 (wordD x) = true := by
  unfold wordD
  simp only [PyData.canLay0]
  exact lay_map fun i _ => rfl
theorem depth_word (x : Wd) : (wordD x).depth ≤ 1 := by
  unfold wordD
  simp only [PyData.depth]
  have := depth_map (f := PyData.int) (n := 0) (l := x) fun i _ => by simp [PyData.depth]
  omega
theorem lay_rw (r : Rw) : PyData.canLay0 (rwD r) = true := by
  unfold rwD
  simp only [PyData.canLay0, PyData.canLayAll0, lay_map fun x _ => lay_word x, Bool.and_self]
theorem depth_rw (r : Rw) : (rwD r).depth ≤ 3 := by
  unfold rwD
  simp only [PyData.depth, PyData.depthAll]
  have := depth_map (f := wdD) (n := 1) (l := r.2.2) fun x _ => depth_word x
  omega
theorem shaped_rws (rs : List Rw) : SeqAt.shaped (rwsD rs) = true := by
  have h1 : PyData.canLay0 (rwsD rs) = true := by
    unfold rwsD
    simp only [PyData.canLay0]
    exact lay_map fun r _ => lay_rw r
  have h2 : (rwsD rs).depth ≤ 4 := by
    unfold rwsD
    simp only [PyData.depth]
    have := depth_map (f := rwD) (n := 3) (l := rs) fun r _ => depth_rw r
    omega
  unfold SeqAt.shaped
  rw [h1, Bool.true_and]
  exact decide_eq_true (by omega)
theorem grown_rows (rows : List (List Int)) (vals : List Int) : (rows.flatMap fun a => vals.map fun v => rowD (a ++ [v])) = (grow1 rows vals).map rowD := by
  unfold grow1
  rw [List.map_flatMap]
  congr 1
  funext a
  rw [List.map_map]
  rfl
def Small (qs : Qs) : Prop := qs.length ≤ 4 ∧ ∀ q ∈ qs, q.2 ≤ 4
abbrev sp_lrows (K : PySem.W.Frag) : Sp := Pf (α := Qs × Int) (fun a => [dat K (qsD a.1), dat K (.int a.2)]) (fun a => Small a.1 ∧ -1 ≤ a.2 ∧ a.2 ≤ 0) (fun a => dat K (rowsL (grow (a.1.map fun q => rng a.2 ((q.2 : Int) - a.2).toNat))))
def strR (P : Str → Prop) : Rel := fun _ v => ∃ z, P z ∧ v = .str z
abbrev sp_lname (K : PySem.W.Frag) : Sp := DPf (α := Unit) (fun _ => []) (fun _ => True) (fun _ => strR (NmL 1 8))
theorem strs_vals {K : PySem.W.Frag} {B : Hp} : ∀ {zs : List Str} {xs : List V}, AllR ((zs.map PyData.str).map (dat K)) B xs → xs = zs.map V.str
  | [], _, h => h
  | z :: zs, _, h => by
    obtain ⟨v, r, rfl, h1, h2⟩ := h
    rw [dat_str h1, strs_vals h2]
    rfl
def NmsOk (n : Nat) (zs : List Str) : Prop := zs.length = n ∧ zs.Nodup ∧ ∀ z ∈ zs, NmL 1 8 z
theorem NmL.n17 {z : Str} (h : NmL 1 8 z) : Nmk 17 z := h.nmk.mono (by decide)
def namesR (K : PySem.W.Frag) (n : Nat) : Rel := fun B v => ∃ zs, NmsOk n zs ∧ zs.Pairwise Sl ∧ dat K (.list (zs.map .str)) B v
abbrev sp_lnames (K : PySem.W.Frag) : Sp := DPf (α := Nat) (fun n => [dat K (.int (n : Int))]) (fun n => n ≤ 8) (namesR K)
structure FOk (qs : Qs) : Prop where
  pos : 1 ≤ qs.length
  few : qs.length ≤ 3
  two : ∀ q ∈ qs, 2 ≤ q.2 ∧ q.2 ≤ 3
  nm : ∀ z ∈ Fm.names qs, NmL 1 8 z
  asc : (Fm.names qs).Pairwise Sl
def NsOk (ds : List PyData) : Prop := ∃ zs : List Str, ds = zs.map .str ∧ 1 ≤ zs.length ∧ zs.length ≤ 3 ∧ (∀ z ∈ zs, NmL 1 8 z) ∧ zs.Pairwise Sl
def QsP (ds : List PyData) : Prop := ∃ qs : Qs, ds = qs.map encQ ∧ FOk qs
abbrev sp_lform (K : PySem.W.Frag) : Sp := DPf (α := Unit) (fun _ => [dat K (.int 3)]) (fun _ => True) (fun _ => datP K (tupOf QsP))
theorem mkQ : ∀ {zs : List Str} {ds : List PyData}, Each (fun z x => ∃ m : Nat, x = encQ (z, m) ∧ 2 ≤ m ∧ m ≤ 3) zs ds → ∃ qs : Qs, ds = qs.map encQ ∧ Fm.names qs = zs ∧ ∀ q ∈ qs, 2 ≤ q.2 ∧ q.2 ≤ 3 := by
  intro zs
  induction zs with
  | nil =>
    intro ds h
    have : ds = [] := List.eq_nil_of_length_eq_zero h.1
    subst this
    exact ⟨[], rfl, rfl, fun q h => nomatch h⟩
  | cons z zs ih =>
    intro ds h
    cases ds with
    | nil => cases h.1
    | cons y ds =>
      obtain ⟨m, hy, hm⟩ := h.2 0 z y rfl rfl
      obtain ⟨qs, e1, e2, e3⟩ := ih (ds := ds) ⟨Nat.succ.inj h.1, fun i a x ha hx => h.2 (i + 1) a x (by simpa using ha) (by simpa using hx)⟩
      refine ⟨(z, m) :: qs, by rw [hy, e1]; rfl, by unfold Fm.names at *; rw [List.map_cons, e2], fun q hq => ?_⟩
      rcases List.mem_cons.mp hq with rfl | hq
      · exact hm
      · exact e3 q hq
theorem mkQs {zs : List Str} {ds : List PyData} (h : Each (fun z x => ∃ m : Nat, x = encQ (z, m) ∧ 2 ≤ m ∧ m ≤ 3) zs ds) (z1 : 1 ≤ zs.length) (z3 : zs.length ≤ 3) (hz : ∀ z ∈ zs, NmL 1 8 z) (hs : zs.Pairwise Sl) : QsP ds := by
  obtain ⟨qs, e, en, hq⟩ := mkQ h
  have ln : qs.length = zs.length := by
    rw [← en]
    unfold Fm.names
    rw [List.length_map]
  exact ⟨qs, e, by omega, by omega, hq, by rw [en]; exact hz, by rw [en]; exact hs⟩
theorem Dw.lcL {K : PySem.W.Frag} {σ : L2.St} {B : Hp} {d c : Addr} {tl te : TE} {g : TG} {vs : List Nat} {P0 : List PyData → Prop} {S : Rel} (h : Dw tl σ d c B (datP K (listOf P0))) (k : ∀ a ds B', P0 ds → Same B B' → dat K (.list ds) B' (.ref a) → Dw (tLc (fun _ H R => R (Itl K a) H) g tYes te vs) σ d c B' S) :
    Dw (tLc (iList K tl) g tYes te vs) σ d c B S := fun B1 H s L Q q =>
  h B1 H s L _ fun v B2 H2 e ⟨x, ⟨ds, hx, hp⟩, hv⟩ => by
    subst hx
    have hv' := hv
    obtain ⟨a, xs, rfl, hs, hR⟩ := dat_lstR hv'
    exact ⟨a, rfl, ⟨xs, e.bh.seq hs⟩, k a ds B2 hp (s.trans e.bb) hv B2 H2 (Same.refl _) e.dl Q fun v B3 H3 e3 h3 => q v B3 H3 (e.trans L e3) h3⟩
/-- thrice a sign -/
def thrice : List Str := (Str.ofString "abcdefghij").cps.toList.map fun c => mulS ⟨#[c]⟩ 3
theorem thrice_nodup : thrice.Nodup := by decide +kernel
theorem thrice_nm : ∀ z ∈ thrice, NmL 1 8 z := by
  have : ∀ z ∈ thrice, 1 ≤ z.length ∧ z.length ≤ 8 ∧ ∀ c ∈ z.cps.toList, 97 ≤ c ∧ c ≤ 122 := by decide +kernel
  exact this
theorem spare_ne {zs : List Str} (h : zs.length < 10) : thrice.filter (fun z => !decide (z ∈ zs)) ≠ [] := by
  intro e
  have all : ∀ z ∈ thrice, z ∈ zs := fun z hz => by
    have := List.filter_eq_nil_iff.mp e z hz
    simpa using this
  have := nodup_len thrice_nodup all
  have l : thrice.length = 10 := by decide +kernel
  omega
theorem alike_str (zs : List Str) : PySem.W.AllAlike (zs.map .str) := by
  intro d hd d' hd'
  obtain ⟨a, _, rfl⟩ := List.mem_map.mp hd
  obtain ⟨b, _, rfl⟩ := List.mem_map.mp hd'
  simp only [PySem.W.alike]
theorem sortok_str (zs : List Str) : PySem.W.SortOk (zs.map .str) := .inr fun d hd => by
  obtain ⟨a, _, rfl⟩ := List.mem_map.mp hd
  exact ⟨(fun z => nomatch z), (fun _ z => nomatch z)⟩
theorem depth_str (zs : List Str) : ∀ d ∈ zs.map PyData.str, d.depth ≤ 60 := fun d hd => by
  obtain ⟨a, _, rfl⟩ := List.mem_map.mp hd
  simp [PyData.depth]
theorem strs_dpAll {K : PySem.W.Frag} {H : Hp} : ∀ zs : List Str, DpAll K H (zs.map V.str) (zs.map PyData.str)
  | [] => .nil
  | z :: zs => .cons (.str z) (strs_dpAll zs)
section
variable {P : Program} {w : World} {K : PySem.W.Frag} {mg : Str → Option Value} {base : Heap} {C_Form C_Tally C_InvalidSize C_BlankError : Addr}
theorem sc_lname : FnScope ["deal", "letters", "stem", "at", "turn"] ["deal"] (defScope s_lname) := ⟨rfl, rfl, rfl, by decide +kernel, rfl, by decide +kernel, by decide +kernel⟩
theorem ok_lname (D : Def K mg "_law_name" s_lname ["deal"]) (C_any : Cal P w K mg base CX0 1 "_law_any" s_any ["deal", "bound"] spAny) (C_of : Cal P w K mg base CX0 2 "_law_of" s_of ["deal", "some"] (spOf K)) (n_range : mg "range" = none) : Cal P w K mg base CX0 3 "_law_name" s_lname ["deal"] (sp_lname K) := by
  refine D.ok sc_lname (fun vs H Q E h => ?_) (fun cdv f A outer s H vs Q E hr h => ?_)
  · exact dpf_len h fun _ => rfl
  replace h := dpf0 h
  obtain ⟨d, c, B, _, rfl, L, _, k⟩ := h
  refine ⟨_, (pss_cons (ps_set (i := 1) sc_lname.nd rfl (Or.inr rfl) pe_str)
    (pss_cons (ps_if (pt_cmpR op_eq (pe_cal C_any (hr.mono (by decide)) (by rfl) pass0 (pa_cons (pv 0) (pa_cons pe_int pa_nil))) pe_int (nomark _)) (pss_cons (ps_par (i := 2) (j := 3) rfl sc_lname.nd rfl rfl (by decide) rfl rfl (pa_cons (pe_cal C_of (hr.mono (by decide)) (by rfl) pass0 (pa_cons (pv 0) (pa_cons (pe_lst (pa_cons pe_str (pa_cons pe_str (pa_cons pe_str (pa_cons pe_str pa_nil))))) pa_nil))) (pa_cons (pe_cal C_any (hr.mono (by decide)) (by rfl) pass0 (pa_cons (pv 0) (pa_cons pe_int pa_nil))) pa_nil)) (by rfl))
      (pss_one (ps_ret (pe_op op_add_str (pe_op op_add_str (pe_slice sl_str (pv 2) po_none (po_some (pv 3))) (pe_cal C_of (hr.mono (by decide)) (by rfl) pass0 (pa_cons (pv 0) (pa_cons (pv 1) pa_nil)))) (pe_slice sl_str (pv 2) (po_some (pe_op op_add (pv 3) pe_int)) po_none))))) pss_nil)
    (pss_one (ps_ret (pe_join pe_str (pe_lc (own := [("turn", 4)]) (g := gName 4) (tt := tYes) rfl sc_lname.nd (pi_range1 rfl n_range (pa_cons (pe_op op_add pe_int (pe_cal C_any (hr.mono (by decide)) (by rfl) pass0 (pa_cons (pv 0) (pa_cons pe_int pa_nil)))) pa_nil)) (blkOk_by (own := [("turn", 4)]) (N := ["deal", "letters", "stem", "at", "turn"]) (sc := defScope s_lname) (by decide +kernel)) (fun _ _ _ _ _ => (pg_name (i := 4) sc_lname.nd rfl (Or.inl rfl))) (fun _ _ _ _ _ => pts_nil) (fun _ _ _ _ _ => (pe_cal C_of (hr.mono (by decide)) (by rfl) pass0 (pa_cons (pv 0) (pa_cons (pv 1) pa_nil)))))))))), ?_⟩
  refine s_set (De.str (K := K)) L.bh fun v1 B1 H1 e1 h1 => ?_
  have h1 := dat_str h1
  subst h1
  have eA := ExtD.of L e1
  refine s_ifSR (t_any0 (K := K) eA.dl rfl .int (by decide) (by decide) fun b B2 H2 e2 => ?_)
  have e12 := eA.trans L e2
  refine ite2 (fun _ => ?_) (fun _ => ?_)
  · refine s_parR (c_ofL (K := K) e12.dl rfl (De.lstD (.cons .str (.cons .str (.cons .str (.cons .str .nil)))) (by show 4 ≤ sizeLine; decide)) (by simp) (by show 4 ≤ 1000; decide) fun x v B3 H3 hx e3 hv => c_any (K := K) e3.dl rfl .int (by decide) (by decide) fun r B4 H4 r0 r1 e4 => ?_)
    obtain ⟨z, rfl, hz⟩ : ∃ z : Str, x = .str z ∧ NmL 1 8 z := by
      simp only [List.mem_cons, List.not_mem_nil, or_false] at hx
      rcases hx with rfl | rfl | rfl | rfl <;> exact ⟨_, rfl, by decide +kernel, by decide +kernel, by decide +kernel⟩
    have hv := dat_str hv
    subst hv
    have hk := hz.nmk
    have zs : z.length ≤ sizeLine := by rw [sizeLine_eq]; have := hz.2.1; omega
    refine s_retR (r_op (r_op (d_ev e4.dl (De.slS (K := K) (.var (Dp.str _) rfl) .none (.some (K := K) (.var (Dp.int _) rfl)) zs) fun x5 B5 H5 e5 h5 => c_ofS (K := K) e5.dl rfl (.var (Dp.str _) rfl) (by decide +kernel) (by decide +kernel) fun a B6 H6 ha e6 => ⟨_, _, dat_str h5, rfl, ?_, d_ev e6.dl (De.slS (K := K) (.var (Dp.str _) rfl) (.some (K := K) (.op (.var (Dp.int _) rfl) .int Rv.I0)) .none zs) fun x7 B7 H7 e7 h7 => ⟨_, _, rfl, dat_str h7, ?_, k _ B7 H7 ((((e12.trans L e3).trans L e4).trans L e5).trans L (e6.trans e5.dl e7)) ⟨_, ?_, rfl⟩⟩⟩)))
    all_goals
      have lb : 97 ≤ a ∧ a ≤ 122 := (show ∀ a ∈ (Str.ofString "abcdefghijklmnopqrstuvwxyz").cps.toList, 97 ≤ a ∧ a ≤ 122 by decide +kernel) a ha
      have la : a < 128 := by omega
    · have := (hk.cut (lo := none) (hi := some r)).1
      rw [sizeLine_eq]
      show _ + 1 ≤ _
      omega
    · have := ((hk.cut (lo := none) (hi := some r)).app (Nmk.one la)).1
      have := (hk.cut (lo := some (r + 1)) (hi := none)).1
      rw [sizeLine_eq]
      omega
    · exact hz.stem lb r0 r1
  · dsimp only [tRet]
    refine ⟨⟨_, rfl⟩, ?_⟩
    refine c_lcAny (K := K) e12.dl rfl .int (by decide) (by decide) (by decide) (by decide) fun r B3 H3 r0 r1 e3 => ?_
    have e13 := e12.trans L e3
    refine c_lcD (K := K) (as := List.range (1 + r).toNat) (wi := fun _ H R => R (Itr 0 (1 + r).toNat) H) e13.dl (Di.itr (K := K)) (by rw [List.length_range, sizeLine_eq]; omega) (fun i out => ∃ zs : List Str, out = zs.map .str ∧ zs.length = i ∧ ∀ z ∈ zs, NmL 1 1 z) ⟨[], rfl, rfl, fun z h => nomatch h⟩ (fun i a v B5 H5 out ha L5 s5 hv ⟨zs, ho, hl, hz⟩ Y N hY hN => ⟨rfl, ?_⟩) fun out v B6 H6 e6 ⟨zs, ho, hl, hz⟩ hv => ?_
    · refine c_ofS (K := K) L5 rfl (.var (Dp.str _) rfl) (by decide +kernel) (by decide +kernel) fun a B7 H7 ha e7 => hY _ B7 H7 (.str ⟨#[a]⟩) e7 (Dp.str _) ⟨zs ++ [⟨#[a]⟩], by rw [ho]; simp, by simp [hl], fun z hz' => ?_⟩
      have la : 97 ≤ a ∧ a ≤ 122 := (show ∀ a ∈ (Str.ofString "abcdefghijklmnopqrstuvwxyz").cps.toList, 97 ≤ a ∧ a ≤ 122 by decide +kernel) a ha
      rcases List.mem_append.mp hz' with h | h
      · exact hz z h
      · rw [List.mem_singleton.mp h]
        exact NmL.one la
    · subst ho
      rw [List.length_range] at hl
      obtain ⟨p, xs, rfl, hs, hR⟩ := dat_lstR hv
      have ex : xs = zs.map V.str := strs_vals hR
      subst ex
      have short : zs.length ≤ 8 := by omega
      have sum := sum_le fun z h => (hz z h).nmk
      refine ⟨_, p, zs, rfl, rfl, .inl (e6.bh.seq hs), ?_, k _ B6 H6 (e13.trans L e6) ⟨_, (join_nmL (by decide +kernel) hz).mono (by omega) (by omega), rfl⟩⟩
      show _ + zs.length * 0 ≤ _
      omega
theorem sc_lnames : FnScope ["deal", "many", "names", "turn", "name", "spare", "sign"] ["deal", "many"] (defScope s_lnames) := ⟨rfl, rfl, rfl, by decide +kernel, rfl, by decide +kernel, by decide +kernel⟩
theorem ok_lnames (D : Def K mg "_law_names" s_lnames ["deal", "many"]) (n_range : mg "range" = none) (C_lname : Cal P w K mg base CX0 3 "_law_name" s_lname ["deal"] (sp_lname K)) (n_sorted : mg "sorted" = none) : Cal P w K mg base CX0 4 "_law_names" s_lnames ["deal", "many"] (sp_lnames K) := by
  refine D.ok sc_lnames (fun vs H Q E h => ?_) (fun cdv f A outer s H vs Q E hr h => ?_)
  · exact dpf_len h fun _ => rfl
  replace h := dpf1 h
  obtain ⟨d, vn, c, B, n, rfl, L, hn, n8, k⟩ := h
  refine ⟨_, (pss_cons (ps_set (i := 2) sc_lnames.nd rfl (Or.inr rfl) (pe_lst pa_nil))
    (pss_cons (ps_for PassesOwn.never rfl (pi_range1 rfl n_range (pa_cons (pv 1) pa_nil)) (pg_name (i := 3) sc_lnames.nd rfl (Or.inl rfl)) (pss_cons (ps_set (i := 4) sc_lnames.nd rfl (Or.inl rfl) (pe_cal C_lname (hr.mono (by decide)) (by rfl) pass0 (pa_cons (pv 0) pa_nil)))
      (pss_cons (ps_setLc (i := 5) (own := [("sign", 6)]) (g := gName 6) rfl sc_lnames.nd rfl rfl (sw_true rfl rfl rfl (by decide +kernel)) (pi_str pe_str) (blkOk_by (own := [("sign", 6)]) (N := ["deal", "many", "names", "turn", "name", "spare", "sign"]) (sc := defScope s_lnames) (by decide +kernel)) (fun _ _ _ _ _ => (pg_name (i := 6) sc_lnames.nd rfl (Or.inl rfl))) (fun _ _ _ _ _ => pts_one (pt_cmpR (r := rNotInD K) (op_notInD hr.u65) (pe_op op_mulS (pv 6) pe_int) (pv 2) rfl)) (fun _ _ _ _ _ => (pe_op op_mulS (pv 6) pe_int)))
      (pss_one (ps_expr (pe_bm PySem.F.plainAttrs_list PySem.F.slot_list_append PySem.F.type_list_append mt_append (pv 2) (pa_cons (pe_ifExp (pt_cmpR (op_notInD hr.u65) (pv 4) (pv 2) rfl) (pv 4) (pe_ix ix_list (pv 5) pe_int (fun _ _ => rfl))) pa_nil)))))))
    (pss_one (ps_ret (pe_callB (cr_sortedD hr.units) (by rfl) n_sorted (by decide +kernel) (pa_cons (pv 2) pa_nil)))))), ?_⟩
  have hn := dat_int hn
  subst hn
  refine ⟨Nat.zero_le _, fun M hM => ?_⟩
  obtain ⟨m0, e0⟩ := Ml.new (xs := []) L hM
  refine s_forD L e0 (Di.rng (K := K) (n := n) (.var (Dp.int _) rfl) (by omega)) (fun i σ B' H' => ∃ v3 v4 v5 v6, σ = [some (.ref d), some (.int (n : Int)), some (.ref M), v3, v4, v5, v6] ∧ ∃ zs, Ml d c B' H' M (zs.map V.str) ∧ NmsOk i zs) (fun B1 H1 e => ⟨_, _, _, _, rfl, [], m0.ext e, rfl, List.nodup_nil, fun z h => nomatch h⟩) ?_ ?_
  · rintro B1 i R v σ' Bc Hc Bn Hn sB hR e1 s1 ⟨v3, v4, v5, v6, rfl, zs, m1, lz, nz, hz⟩ e2 hx
    have i8 : i < n := by
      have := (List.getElem?_eq_some_iff.mp hR).1
      rw [List.length_map, List.length_range] at this
      exact this
    have e12 := e1.trans L e2
    have m2 := m1.ext e2
    refine s_raw (c_def () e12.dl rfl .nil (by trivial) fun v B3 H3 e3 hv => ?_)
    obtain ⟨z, hzL, rfl⟩ := hv
    have hz17 := NmL.n17 hzL
    have e13 := e12.trans L e3
    have m3 := m2.ext e3
    obtain ⟨l1, l2⟩ := m3.look e13.dl
    have zs20 : ∀ z ∈ zs, Nm z := fun z h => (NmL.n17 (hz z h)).mono (by decide)
    have names : dat K (.list (zs.map .str)) (upd B3 M (.lst (zs.map V.str))) (.ref M) := .lst (SqL.of upd_same) (strs_dpAll zs)
    refine s_set (De.eq (De.lcD (K := K) (as := (Str.ofString "abcdefghij").cps.toList) (r := fun c => dat K (.str ⟨#[c]⟩)) (Di.str .str) (fun c => !decide (mulS ⟨#[c]⟩ 3 ∈ zs)) (fun c => .str (mulS ⟨#[c]⟩ 3)) (by decide +kernel) fun a x Bn Hn ha sn sh hx => ⟨_, fun Q q => q, rfl, ?_, fun _ => ?_⟩) (e := .list ((thrice.filter fun z => !decide (z ∈ zs)).map .str)) ?_) l2 fun v4 B4 H4 e4 h4 => ?_
    · have a3 : Nm (mulS ⟨#[a]⟩ 3) := (NmL.n17 (thrice_nm _ (List.mem_map.mpr ⟨a, ha, rfl⟩))).mono (by decide)
      refine Dt.eq (Dt.test (De.op (r := rNotInD K) (De.op (r := rMulS) (.var hx rfl) .int Rv.mulS3) (.var (Mo.mo sn names) rfl) (Rv.notInL (shaped_str a3) (shaped_strsL zs20)))) ?_
      rw [any_strs]
    · exact De.op (r := rMulS) (.var hx rfl) .int Rv.mulS3
    · unfold thrice
      rw [List.filter_map, List.map_map]
      rfl
    have e34 := Ml.looked e13.dl e4
    have m4 := m3.ext e34
    have e14 := e13.trans L e34
    have ne := spare_ne (zs := zs) (by omega)
    have sp : ∀ z ∈ thrice.filter (fun z => !decide (z ∈ zs)), z ∉ zs ∧ NmL 1 8 z := fun z h => by
      obtain ⟨h1, h2⟩ := List.mem_filter.mp h
      exact ⟨by simpa using h2, thrice_nm z h1⟩
    generalize thrice.filter (fun z => !decide (z ∈ zs)) = out at h4 ne sp
    obtain ⟨s0, r0, rfl⟩ : ∃ s0 r0, out = s0 :: r0 := by
      cases out with
      | nil => exact absurd rfl ne
      | cons a b => exact ⟨a, b, rfl⟩
    obtain ⟨sn, s17⟩ := sp s0 List.mem_cons_self
    obtain ⟨q, ws, rfl, hq, hR⟩ := dat_lstR h4
    have ew := strs_vals (zs := s0 :: r0) hR
    subst ew
    have fin : ∀ y : Str, y ∉ zs → NmL 1 8 y → Nd d c B H B1 (fun σ B' H' => ∃ v3 v4 v5 v6, σ = [some (.ref d), some (.int (n : Int)), some (.ref M), v3, v4, v5, v6] ∧ ∃ zs, Ml d c B' H' M (zs.map V.str) ∧ NmsOk (i + 1) zs) [some (.ref d), some (.int (n : Int)), some (.ref M), some v, some (.str z), some (.ref q), v6] (upd H4 M (.lst (zs.map V.str ++ [.str y]))) := fun y hy h17 => by
      refine ⟨B3, e14.setL m4 hM, (s1.trans e2.bb).trans e3.bb, _, _, _, _, rfl, zs ++ [y], ?_, by simp [lz], ?_, ?_⟩
      · rw [List.map_append]
        exact (Ml.set e14.dl m4).1
      · rw [List.nodup_append]
        refine ⟨nz, by simp, fun a ha b hb => ?_⟩
        rw [List.mem_singleton.mp hb]
        rintro rfl
        exact hy ha
      · intro x hx
        rcases List.mem_append.mp hx with h | h
        · exact hz x h
        · rw [List.mem_singleton.mp h]
          exact h17
    have few : (zs.map V.str).length < sizeLine := by rw [List.length_map, lz, sizeLine_eq]; omega
    refine ⟨_, rfl, .inl ⟨rfl, _, SqL.of m4.at_⟩, _, rfl, _, rfl, .str z, zs.map .str, .str z, .lst (SqL.of m4.at_) (strs_dpAll zs), shaped_str (hz17.mono (by decide)), shaped_strsL zs20, _, rfl, ?_⟩
    rw [any_strs]
    refine ite2 (fun h => ?_) (fun h => ?_)
    · have h : z ∉ zs := by simpa using h
      exact ⟨_, rfl, M, _, .str z, rfl, rfl, m4.at_, few, fin z h hzL⟩
    · exact ⟨_, rfl, q, _, 0, .str s0, rfl, rfl, e4.bh.seq hq, atI_nat (j := 0) rfl, M, _, .str s0, rfl, rfl, m4.at_, few, fin s0 sn s17⟩
  · rintro σ' B' H' e1 s1 ⟨v3, v4, v5, v6, rfl, zs, m1, lz, nz, hz⟩
    rw [List.length_map, List.length_range] at lz
    refine ⟨_, rfl, M, zs.map V.str, zs.map .str, rfl, SqL.of m1.at_, strs_dpAll zs, alike_str zs, sortok_str zs, depth_str zs, fun p hp => ?_⟩
    obtain ⟨ys, perm, es, asc⟩ := sorted_strs nz
    refine k _ _ _ (e1.trans L (.of e1.dl (.new e1.bh hp))) ⟨ys, ⟨by rw [perm.length_eq, lz], perm.nodup_iff.mpr nz, fun z h => hz z (perm.mem_iff.mp h)⟩, asc, ?_⟩
    rw [← es]
    exact .lst (SqL.of upd_same) (dp_sort (strs_dpAll zs))
theorem sc_lform : FnScope ["deal", "most", "name"] ["deal", "most"] (defScope s_lform) := ⟨rfl, rfl, rfl, by decide +kernel, rfl, by decide +kernel, by decide +kernel⟩
theorem ok_lform (D : Def K mg "_law_form" s_lform ["deal", "most"]) (C_lnames : Cal P w K mg base CX0 4 "_law_names" s_lnames ["deal", "many"] (sp_lnames K)) (C_any : Cal P w K mg base CX0 1 "_law_any" s_any ["deal", "bound"] spAny) (C_of : Cal P w K mg base CX0 2 "_law_of" s_of ["deal", "some"] (spOf K)) (n_tuple : mg "tuple" = none) : Cal P w K mg base CX0 5 "_law_form" s_lform ["deal", "most"] (sp_lform K) := by
  refine D.ok sc_lform (fun vs H Q E h => ?_) (fun cdv f A outer s H vs Q E hr h => ?_)
  · exact dpf_len h fun _ => rfl
  replace h := dpf1 h
  obtain ⟨d, vn, c, B, _, rfl, L, hn, _, k⟩ := h
  refine ⟨_, (pss_one (ps_ret (pe_callTy call_tuple_of (by rfl) n_tuple (by decide +kernel) (pa_cons (pe_lc (own := [("name", 2)]) (g := gName 2) (tt := tYes) rfl sc_lform.nd (pi_list (pe_cal C_lnames (hr.mono (by decide)) (by rfl) pass0 (pa_cons (pv 0) (pa_cons (pe_op op_add pe_int (pe_cal C_any (hr.mono (by decide)) (by rfl) pass0 (pa_cons (pv 0) (pa_cons (pv 1) pa_nil)))) pa_nil)))) (blkOk_by (own := [("name", 2)]) (N := ["deal", "most", "name"]) (sc := defScope s_lform) (by decide +kernel)) (fun _ _ _ _ _ => (pg_name (i := 2) sc_lform.nd rfl (Or.inl rfl))) (fun _ _ _ _ _ => pts_nil) (fun _ _ _ _ _ => (pe_tup (pa_cons (pv 2) (pa_cons (pe_cal C_of (hr.mono (by decide)) (by rfl) pass0 (pa_cons (pv 0) (pa_cons (pe_lst (pa_cons pe_int (pa_cons pe_int (pa_cons pe_int pa_nil)))) pa_nil))) pa_nil))))) pa_nil)))), ?_⟩
  have hn := dat_int hn
  subst hn
  have line := sizeLine_eq
  refine s_retW L (Dw.tupleL (P := QsP) (Dw.lcL (K := K) (P0 := NsOk) ?_ fun a ds B' ⟨zs, e, z1, z3, hz, asc⟩ s h => ?_)) k
  · refine Dw.def (S := datP K (listOf NsOk)) rfl (.one (Dw.op (Dw.int) (Dw.any (K := K) rfl (.var (Dp.int 3) rfl) (by decide) (by decide)) fun _ => Rv.intP)) fun B vs hv => ?_
    obtain ⟨x, r, rfl, ⟨j, ⟨a, b, ha, hb, hj⟩, hx⟩, hr⟩ := hv
    subst ha
    refine ⟨j.toNat, ⟨x, r, rfl, ?_, hr⟩, (by show j.toNat ≤ 8; omega), fun B v ⟨zs, ⟨lz, _, hz⟩, asc, hv⟩ => ⟨_, ⟨_, rfl, zs, rfl, by omega, by omega, hz, asc⟩, hv⟩⟩
    rw [hx, show ((j.toNat : Nat) : Int) = j by omega]
    exact .int _
  · subst e
    refine .cv (Dw.lc (K := K) (as := zs) (r := fun z => dat K (.str z)) (fun z x => ∃ m : Nat, x = encQ (z, m) ∧ 2 ≤ m ∧ m ≤ 3) ((Di.itl h).conv (by rw [List.map_map]; rfl)) (by omega) fun z x Bn hz sb hx => ⟨[some (.ref d), some (.int 3), some x], fun _ _ _ q => q, rfl, ?_⟩) fun B2 u h2 => ?_
    · refine Dw.cv (Dw.tup (K := K) (Dwa.cons (.of (.var hx rfl)) (Dwa.one (Dw.ofL (ds := [.int 2, .int 2, .int 3]) rfl (De.lstD (.cons .int (.cons .int (.cons .int .nil))) (by show 3 ≤ sizeLine; omega)) (by simp) (by show 3 ≤ 1000; decide)))) (by rw [line]; show 2 ≤ _; decide)) fun B v hv => ?_
      obtain ⟨a, xs, rfl, hs, x1, r1, rfl, hx1, x2, r2, rfl, ⟨j, hj, hx2⟩, hr⟩ := hv
      have hr : r2 = [] := hr
      subst hr
      obtain ⟨m, rfl, m2, m3⟩ : ∃ m : Nat, j = .int (m : Int) ∧ 2 ≤ m ∧ m ≤ 3 := by
        simp only [List.mem_cons, List.not_mem_nil, or_false] at hj
        rcases hj with rfl | rfl | rfl
        · exact ⟨2, rfl, by decide, by decide⟩
        · exact ⟨2, rfl, by decide, by decide⟩
        · exact ⟨3, rfl, by decide, by decide⟩
      exact ⟨_, ⟨m, rfl, m2, m3⟩, .tup hs (.cons hx1 (.cons hx2 .nil))⟩
    · obtain ⟨x, ⟨ds, hx, hE⟩, h2⟩ := h2
      exact ⟨x, ⟨ds, hx, mkQs hE z1 z3 hz asc⟩, h2⟩
theorem sc_lrows : FnScope ["questions", "least", "rows", "name", "many", "longer", "row", "answer"] ["questions", "least"] (defScope s_lrows) := ⟨rfl, rfl, rfl, by decide +kernel, rfl, by decide +kernel, by decide +kernel⟩
theorem ok_lrows (D : Def K mg "_law_rows" s_lrows ["questions", "least"]) (n_range : mg "range" = none) : Cal P w K mg base CX0 1 "_law_rows" s_lrows ["questions", "least"] (sp_lrows K) := by
  refine D.ok sc_lrows (fun vs H Q E h => ?_) (fun cdv f A outer s H vs Q E hr h => ?_)
  · exact pf_len h fun _ => rfl
  replace h := pf2 h
  obtain ⟨v, v1, B, ⟨qs, lo⟩, rfl, hB, hv, hv1, ⟨sm, l1, l2⟩, k⟩ := h
  refine ⟨_, (pss_cons (ps_set (i := 2) sc_lrows.nd rfl (Or.inl rfl) (pe_lst (pa_cons (pe_tup pa_nil) pa_nil)))
    (pss_cons (ps_for PassesOwn.never rfl (pi_tup (pv 0)) (pg_tup rfl (pgs_cons (pg_name (i := 3) sc_lrows.nd rfl (Or.inl rfl)) (pgs_cons (pg_name (i := 4) sc_lrows.nd rfl (Or.inl rfl)) pgs_nil))) (pss_cons (ps_set (i := 5) sc_lrows.nd rfl (Or.inl rfl) (pe_lst pa_nil))
      (pss_cons (ps_for PassesOwn.never rfl (pi_list (pv 2)) (pg_name (i := 6) sc_lrows.nd rfl (Or.inr rfl)) (pss_one (ps_set (i := 5) sc_lrows.nd rfl (Or.inl rfl) (pe_op op_catS (pv 5) (pe_lc (own := [("answer", 7)]) (g := gName 7) (tt := tYes) rfl sc_lrows.nd (pi_range2 (by rfl) n_range (pa_cons (pv 1) (pa_cons (pv 4) pa_nil))) (blkOk_by (own := [("answer", 7)]) (N := ["questions", "least", "rows", "name", "many", "longer", "row", "answer"]) (sc := defScope s_lrows) (by decide +kernel)) (fun _ _ _ _ _ => (pg_name (i := 7) sc_lrows.nd rfl (Or.inl rfl))) (fun _ _ _ _ _ => pts_nil) (fun _ _ _ _ _ => (pe_op (r := rCatA K) op_catA (pv 6) (pe_tup (pa_cons (pv 7) pa_nil)))))))))
      (pss_one (ps_set (i := 2) sc_lrows.nd rfl (Or.inl rfl) (pv 5))))))
    (pss_one (ps_ret (pv 2))))), ?_⟩
  have few : qs.length ≤ 4 := sm.1
  have small : ∀ q ∈ qs, q.2 ≤ 4 := sm.2
  have l1 : -1 ≤ lo := l1
  have l2 : lo ≤ 0 := l2
  have hv1 := dat_int hv1
  subst hv1
  refine s_set (De.lstD (K := K) (.cons (De.tupD .nil (by show 0 ≤ sizeLine; decide)) .nil) (by show 1 ≤ sizeLine; decide)) hB fun v2 B1 H1 e1 h2 => ?_
  refine s_forS (Di.tupM (K := K) (as := qs) (f := encQ) (.var (Mo.mo e1.bb hv) rfl)) e1.bh (fun i σ B => ∃ u v3 v4 v5 v6 v7, σ = [some v, some (.int lo), some u, v3, v4, v5, v6, v7] ∧ dat K (rowsL (grow ((qs.take i).map fun q => rng lo ((q.2 : Int) - lo).toNat))) B u) (fun B' s => ⟨v2, _, _, _, _, _, rfl, Mo.mo s h2⟩) ?_ ?_
  · rintro B2 H2 e2 i R x σ' Bc Bn Hn hR ⟨u, v3, v4, v5, v6, v7, rfl, hu⟩ s e hx
    rw [List.getElem?_map] at hR
    obtain ⟨q, hq, rfl⟩ := Option.map_eq_some_iff.mp hR
    have i4 : i < 4 := by
      have := (List.getElem?_eq_some_iff.mp hq).1
      omega
    have q4 : q.2 ≤ 4 := small q (List.mem_of_getElem? hq)
    obtain ⟨y, z, hy, hz, go⟩ := gTup2 e.bh (dat_pair hx)
    refine go _ ?_
    have hz := dat_int hz
    subst hz
    have tk : (qs.take (i + 1)).map (fun q => rng lo ((q.2 : Int) - lo).toNat) = (qs.take i).map (fun q => rng lo ((q.2 : Int) - lo).toNat) ++ [rng lo ((q.2 : Int) - lo).toNat] := by rw [take_snoc hq, List.map_append]; rfl
    have gl : (grow ((qs.take i).map fun q => rng lo ((q.2 : Int) - lo).toNat)).length ≤ 5 ^ 4 := by
      refine Nat.le_trans (grow_len (m := 5) _ fun l hl => ?_) (Nat.pow_le_pow_right (by decide) ?_)
      · obtain ⟨m, hm, rfl⟩ := List.mem_map.mp hl
        rw [rng_len]
        have := small m (List.mem_of_mem_take hm)
        omega
      · rw [List.length_map, List.length_take]
        omega
    have rl : ∀ a ∈ grow ((qs.take i).map fun q => rng lo ((q.2 : Int) - lo).toNat), a.length ≤ 4 := fun a ha => by
      rw [grow_row ha, List.length_map, List.length_take]
      omega
    rw [tk, grow_snoc]
    generalize grow ((qs.take i).map fun q => rng lo ((q.2 : Int) - lo).toNat) = rows at hu gl rl
    refine s_set (De.lstD (K := K) .nil (by show 0 ≤ sizeLine; decide)) e.bh fun v8 B8 H8 e8 h8 => ?_
    refine s_forS (Di.listM (K := K) (as := rows) (f := rowD) (.var (Mo.mo (s.trans e8.bb) hu) rfl)) e8.bh (fun j σ B => ∃ u5 v6 v7, σ = [some v, some (.int lo), some u, some y, some (.int (q.2 : Int)), some u5, v6, v7] ∧ dat K (rowsL (grow1 (rows.take j) (rng lo ((q.2 : Int) - lo).toNat))) B u5) (fun B' s => ⟨v8, _, _, rfl, Mo.mo s h8⟩) ?_ ?_
    · rintro B3 H3 e3 j R x σ' Bc Bm Hm hR ⟨u5, v6, v7, rfl, h5⟩ s' em hx
      rw [List.getElem?_map] at hR
      obtain ⟨a, ha, rfl⟩ := Option.map_eq_some_iff.mp hR
      have a4 := rl a (List.mem_of_getElem? ha)
      have len : (grow1 (rows.take j) (rng lo ((q.2 : Int) - lo).toNat)).length ≤ 5 ^ 4 * 5 := by
        rw [grow1_len, rng_len, List.length_take]
        exact Nat.mul_le_mul (by omega) (by omega)
      refine s_setE (De.op (r := rCatS K) (.var (Mo.mo s' h5) rfl) (De.lcA (K := K) (as := List.range ((q.2 : Int) - lo).toNat) (r := fun m => dat K (.int (lo + (m : Int)))) (Di.rng2 (.cons (.var (Dp.int _) rfl) (.cons (.var (Dp.int _) rfl) .nil)) (by omega)) (fun m => rowD (a ++ [lo + (m : Int)])) (by rw [List.length_range, sizeLine_eq]; omega) fun m x7 B7 H7 _ s7 _ h7 => ⟨_, fun Q q => q, rfl, ?_⟩) (Rv.catS (by rw [List.length_map, List.length_map, List.length_range, sizeLine_eq]; omega))) em.bh fun v9 B9 H9 e9 h9 => ⟨B9, em.trans e9, v9, _, _, rfl, ?_⟩
      · have h7 := dat_int h7
        subst h7
        refine De.eq (d := .tuple (a.map .int ++ [.int (lo + (m : Int))])) (De.op (r := rCatA K) (De.var (Mo.mo s7 hx) rfl) (De.tupD (ds := [.int (lo + (m : Int))]) (.cons (.var (Dp.int _) rfl) .nil) (by show 1 ≤ sizeLine; decide)) (Rv.catT (by rw [List.length_map, sizeLine_eq]; show _ + 1 ≤ _; omega))) ?_
        unfold rowD
        rw [List.map_append]
        rfl
      · have e : grow1 (rows.take (j + 1)) (rng lo ((q.2 : Int) - lo).toNat) = grow1 (rows.take j) (rng lo ((q.2 : Int) - lo).toNat) ++ (List.range ((q.2 : Int) - lo).toNat).map fun m : Nat => a ++ [lo + (m : Int)] := by
          unfold grow1 rng
          rw [take_snoc ha, List.flatMap_append]
          simp
        rw [e]
        unfold rowsL
        rw [List.map_append, List.map_map]
        exact h9
    · rintro σ' B' H' e3 ⟨u5, v6, v7, rfl, h5⟩
      rw [List.length_map, List.take_length] at h5
      exact s_setE (De.var h5 rfl) e3.bh fun v9 B9 H9 e9 h9 => ⟨B9, ((e.trans e8).trans e3).trans e9, v9, _, _, _, _, _, rfl, h9⟩
  · rintro σ' B' H' e2 ⟨u, v3, v4, v5, v6, v7, rfl, hu⟩
    rw [List.length_map, List.take_length] at hu
    exact s_ret (.var hu rfl) e2.bh fun v B H e h => k v B H ((e1.trans e2).trans e) h
end
end K30

set_option Elab.async false
set_option linter.all false
set_option maxRecDepth 100000
set_option maxHeartbeats 4000000
/-! K30g: the law's own tally. -/
namespace K30
open PySem PySem.Spec PyProof.Rows L2 Wb Wv Fm Ta
theorem ext_look {B H B2 H2 : Hp} {M : Addr} {o : HO} (s : Same B H) (e : Ext (upd B M o) H B2 H2) : Ext B H B H2 := ⟨e.hh, Same.refl _, s.trans e.hh, fun _ _ z => z⟩
theorem hid_look {B H : Hp} {M : Addr} {o : HO} (m : Hid B H M o) (s : Same B H) : Same B (upd B M o) ∧ Same (upd B M o) H := ⟨new_same m.no, fun b x z => by
  by_cases q : b = M
  · subst q
    rw [upd_same] at z
    cases z
    exact m.at_
  · rw [upd_ne q] at z
    exact s b x z⟩
def sp_once (K : PySem.W.Frag) : Sp := fun vs H Q _ => ∃ (α : Type) (de : DecidableEq α) (enc : α → PyData) (l : List α) (B : Hp) (x : V), vs = [x] ∧ Same B H ∧ dat K (.list (l.map enc)) B x ∧ l.length ≤ 60 ∧ (∀ a b, PyData.eqv (enc a) (enc b) = decide (a = b)) ∧ (∀ a, PyData.canLay0 (enc a) = true) ∧ (∀ a, (enc a).depth ≤ 5) ∧ ∀ v B' H', Ext B H B' H' → dat K (.list ((once l).map enc)) B' v → Q v H'
section
variable {P : Program} {w : World} {K : PySem.W.Frag} {mg : Str → Option Value} {base : Heap} {C_Form C_Tally C_InvalidSize C_BlankError C_InvalidForm C_InvalidSheets : Addr}
theorem sc_once : FnScope ["some", "found", "one"] ["some"] (defScope s_once) := ⟨rfl, rfl, rfl, by decide +kernel, rfl, by decide +kernel, by decide +kernel⟩
theorem ok_once (D : Def K mg "_law_once" s_once ["some"])  : Cal P w K mg base CX0 1 "_law_once" s_once ["some"] (sp_once K) := by
  refine D.ok sc_once (fun vs H Q E h => ?_) (fun cdv f A outer s H vs Q E hr h => ?_)
  · obtain ⟨α, de, enc, l, B, x, rfl, _⟩ := h
    rfl
  obtain ⟨α, de, enc, l, B, v, rfl, hB, hv, few, heq, lay, dep, k⟩ := h
  refine ⟨_, (pss_cons (ps_set (i := 1) sc_once.nd rfl (Or.inl rfl) (pe_lst pa_nil))
    (pss_cons (ps_for PassesOwn.never rfl (pi_list (pv 0)) (pg_name (i := 2) sc_once.nd rfl (Or.inl rfl)) (pss_one (ps_if (pt_cmpR (op_notInD hr.u65) (pv 2) (pv 1) rfl) (pss_one (ps_expr (pe_bm PySem.F.plainAttrs_list PySem.F.slot_list_append PySem.F.type_list_append mt_append (pv 1) (pa_cons (pv 2) pa_nil)))) pss_nil)))
    (pss_one (ps_ret (pv 1))))), ?_⟩
  have line := sizeLine_eq
  have sh : ∀ a, SeqAt.shaped (enc a) = true := fun a => by
    unfold SeqAt.shaped
    rw [lay a, Bool.true_and]
    have := dep a
    exact decide_eq_true (by omega)
  have shl : ∀ as : List α, SeqAt.shaped (.list (as.map enc)) = true := fun as => by
    have h2 := depth_map (f := enc) (n := 5) (l := as) fun a _ => dep a
    unfold SeqAt.shaped
    simp only [PyData.canLay0, lay_map (l := as) fun a _ => lay a, PyData.depth, Bool.true_and]
    exact decide_eq_true (by omega)
  refine ⟨Nat.zero_le _, fun M hM => ?_⟩
  change tSeq _ _ _ [some v, some (.ref M), none] (upd H M (.lst []))
  refine s_forX (B0 := B) (H0 := H) (Ext.newH hB hM) (Di.listM (K := K) (as := l) (f := enc) (.var hv rfl)) (fun i σ B' H' => ∃ v2 xs, σ = [some v, some (.ref M), v2] ∧ Hid B' H' M (.lst xs) ∧ AllR (((once (l.take i)).map enc).map (dat K)) B' xs) (fun B1 H1 e => ⟨none, [], rfl, (Hid.new hB hM).ext e, rfl⟩) ?_ ?_
  · rintro B1 i R x σ' Bc Hc Bn Hn s1 hR e1 s2 ⟨v2, xs, rfl, m, hxs⟩ e2 hx
    rw [List.getElem?_map] at hR
    obtain ⟨a, ha, rfl⟩ := Option.map_eq_some_iff.mp hR
    have m2 := m.ext e2
    obtain ⟨sa, sb⟩ := hid_look m2 e2.bh
    have hxs := MoA.mo e2.bb hxs
    have dF : dat K (.list ((once (l.take i)).map enc)) (upd Bn M (.lst xs)) (.ref M) := Dp.lst (SqL.of upd_same) (allR_dp (MoA.mo sa hxs))
    have len := allR_len hxs
    rw [List.length_map, List.length_map] at len
    have lo := once_len (l.take i)
    rw [List.length_take] at lo
    have an : (((once (l.take i)).map enc).any fun y => PyData.eqv y (enc a)) = decide (a ∈ once (l.take i)) := by
      rw [List.any_map]
      by_cases q : a ∈ once (l.take i)
      · rw [decide_eq_true q]
        exact List.any_eq_true.mpr ⟨a, q, by show PyData.eqv (enc a) (enc a) = true; rw [heq]; exact decide_eq_true rfl⟩
      · rw [decide_eq_false q]
        exact List.any_eq_false.mpr fun b hb z => by
          have z : PyData.eqv (enc b) (enc a) = true := z
          rw [heq] at z
          exact q (of_decide_eq_true z ▸ hb)
    have ed := e1.trans e2
    refine s_if (b := !decide (a ∈ once (l.take i))) (Dt.test (De.eq (De.op (r := rNotInD K) (.var (Mo.mo sa hx) rfl) (.var dF rfl) (Rv.notInL (sh a) (shl _))) (by rw [an]))) sb (fun t B3 H3 e3 => ?_) fun f B3 H3 e3 => ?_
    · have na : a ∉ once (l.take i) := by simpa using t
      have el := ext_look e2.bh e3
      have m3 := m2.ext el
      refine ⟨_, rfl, .inl ⟨rfl, _, SqL.of m3.at_⟩, _, rfl, ?_⟩
      refine ⟨M, xs, x, rfl, rfl, m3.at_, by omega, ?_⟩
      refine ⟨Bn, (ed.trans el).setH m3 hM, s2.trans e2.bb, _, xs ++ [x], rfl, m3.set, ?_⟩
      rw [take_snoc ha, once_snoc]
      unfold add1
      rw [if_neg na, List.map_append, List.map_append]
      exact allR_snoc hxs hx
    · have na : a ∈ once (l.take i) := by simpa using f
      have el := ext_look e2.bh e3
      refine ⟨Bn, ed.trans el, s2.trans e2.bb, _, xs, rfl, m2.ext el, ?_⟩
      rw [take_snoc ha, once_snoc]
      unfold add1
      rw [if_pos na]
      exact hxs
  · rintro σ1 B1 H1 e1 s1 ⟨v2, xs, rfl, m, hxs⟩
    rw [List.length_map, List.take_length] at hxs
    have eO := e1.settleH m hM (none_of hB hM)
    exact s_ret (.var (R := dat K (.list ((once l).map enc))) (Dp.lst (SqL.of upd_same) (allR_dp (MoA.mo (new_same m.no) hxs))) rfl) eO.bh fun v' B2 H2 e2 h2 => k v' B2 H2 (eO.trans e2) h2
/-! ### what is due -/
abbrev sp_due (K : PySem.W.Frag) : Sp := Pf (α := List Lt) (fun ls => [dat K (.list (ls.map ltD))]) (fun ls => ls.length ≤ 60 ∧ Pos ls) (fun ls => dat K (rwsD (tally ls)))
theorem De.once {α : Type} [de : DecidableEq α] {enc : α → PyData} {l : List α} {σ : L2.St} {B : Hp} {ta : TE} {E : XK} (h : De ta σ B (dat K (.list (l.map enc)))) (few : l.length ≤ 60) (heq : ∀ a b, PyData.eqv (enc a) (enc b) = decide (a = b)) (lay : ∀ a, PyData.canLay0 (enc a) = true) (dep : ∀ a, (enc a).depth ≤ 5) :
    De (tCall (sp_once K) [] E (tCons ta tNil)) σ B (dat K (.list ((once l).map enc))) := fun B1 H s1 s2 Q q => h B1 H s1 s2 _ fun v B2 H2 e hv =>
  ⟨α, de, enc, l, B2, v, rfl, e.bh, hv, few, heq, lay, dep, fun v' B' H' e' h' => q v' B' H' (e.trans e') h'⟩
theorem eqv_int (a b : Int) : PyData.eqv (.int a) (.int b) = decide (a = b) := by
  simp only [PyData.eqv]
  by_cases h : a = b
  · simp [h]
  · simp [h]
theorem eqv_ints : ∀ a b : Wd, PyData.eqvAll (a.map .int) (b.map .int) = decide (a = b)
  | [], [] => by simp [PyData.eqvAll]
  | [], _ :: _ => by simp [PyData.eqvAll]
  | _ :: _, [] => by simp [PyData.eqvAll]
  | x :: a, y :: b => by
    simp only [List.map_cons, PyData.eqvAll, eqv_int, eqv_ints a b]
    by_cases h : x = y
    · by_cases g : a = b
      · simp [h, g]
      · simp [h, g]
    · simp [h]
theorem eqv_word (a b : Wd) : PyData.eqv (wordD a) (wordD b) = decide (a = b) := by
  unfold wordD
  simp only [PyData.eqv]
  exact eqv_ints a b
theorem De.slA {σ : L2.St} {B : Hp} {te : TE} {ds : List PyData} {tl th : TO} {lo hi : Option Int} (h : De te σ B (dat K (.tuple ds))) (h1 : Do tl σ B lo) (h2 : Do th σ B hi) (part : ¬ (HT.sIx ds.length 0 lo = 0 ∧ HT.sIx ds.length ds.length hi = ds.length)) : De (L2.tSl (rSlA K) te tl th) σ B (dat K (.tuple (cutA ds lo hi))) :=
  .sl h h1 h2 fun x B1 H s1 s2 hx Q q => by
    obtain ⟨a, xs, rfl, hs, hR⟩ := dat_tupR hx
    have g := allR_dp hR
    have len : xs.length = ds.length := dpAll_len g
    refine ⟨a, xs, rfl, seqT s2 hs, fun z => absurd (len ▸ z) part, fun _ p hp => q _ (upd B1 p (.tup (cutV xs lo hi))) _ (.new s2 hp) ?_⟩
    · refine .tup (SqT.of upd_same) (dpMonoAll (new_same (s2.free hp)) _ _ ?_)
      unfold cutV cutA
      rw [len]
      exact dpAll_take _ (dpAll_drop _ g)
theorem rc_max {B : Hp} {ns : List Int} {m : Int} (pos : 0 < ns.length) (h : ∀ k ∈ ns, (∀ y ∈ ns, y ≤ k) → k = m) : Rc (rMax K) B [dat K (.list (ns.map .int))] (dat K (.int m)) := fun vs B1 H _ s2 hv Q q => by
  obtain ⟨v, r, rfl, hx, h2⟩ := hv
  have h2 : r = [] := h2
  subst h2
  obtain ⟨a, xs, rfl, hs, hR⟩ := dat_lstR hx
  have e := ints_of (w := ns) (allR_dp hR)
  subst e
  exact ⟨a, ns, rfl, s2.seq hs, pos, fun k hk all => by rw [h k hk all]; exact q _ B1 H (.refl s2) (.int _)⟩
theorem sortD_ints (ns : List Int) : sortD (ns.map .int) = (sortI ns).map .int := by
  unfold sortD sortI
  refine (List.map_mergeSort (s := dle) (f := PyData.int) (r := fun a b => decide (a ≤ b)) (fun a _ b _ => ?_)).symm
  have h := congrFun (congrFun (PySem.W.dataLe_int (fun x : Int => x)) a) b
  exact h.symm
theorem alike_intsL (ns : List Int) : PySem.W.AllAlike (ns.map .int) := by
  intro d hd d' hd'
  obtain ⟨a, _, rfl⟩ := List.mem_map.mp hd
  obtain ⟨b, _, rfl⟩ := List.mem_map.mp hd'
  simp only [PySem.W.alike]
theorem max_last {ls : List Lt} {n : Int} (pos : Pos ls) (h : n ∈ nums ls) : 0 < ((ls.filter fun x => decide (x.1 = n)).map (·.2.1)).length ∧ ∀ k ∈ (ls.filter fun x => decide (x.1 = n)).map (·.2.1), (∀ y ∈ (ls.filter fun x => decide (x.1 = n)).map (·.2.1), y ≤ k) → k = last ls n := by
  obtain ⟨w, hw⟩ := last_at pos h
  have hm : last ls n ∈ (ls.filter fun x => decide (x.1 = n)).map (·.2.1) := List.mem_map.mpr ⟨_, List.mem_filter.mpr ⟨hw, decide_eq_true rfl⟩, rfl⟩
  refine ⟨List.length_pos_of_mem hm, fun k hk all => ?_⟩
  obtain ⟨x, hx, rfl⟩ := List.mem_map.mp hk
  obtain ⟨h1, h2⟩ := List.mem_filter.mp hx
  have e := of_decide_eq_true h2
  have a := all _ hm
  have b := last_ge h1
  rw [e] at b
  omega
def rowOf (ls : List Lt) (n : Int) : Rw := (n, last ls n, sortW (once (Ta.wordsOf ls n)))
theorem sc_due : FnScope ["letters", "rows", "number", "letter", "last", "words"] ["letters"] (defScope s_due) := ⟨rfl, rfl, rfl, by decide +kernel, rfl, by decide +kernel, by decide +kernel⟩
theorem ok_due (D : Def K mg "_law_due" s_due ["letters"]) (C_once : Cal P w K mg base CX0 1 "_law_once" s_once ["some"] (sp_once K)) (n_sorted : mg "sorted" = none) (n_max : mg "max" = none) (n_tuple : mg "tuple" = none) : Cal P w K mg base CX0 2 "_law_due" s_due ["letters"] (sp_due K) := by
  refine D.ok sc_due (fun vs H Q E h => ?_) (fun cdv f A outer s H vs Q E hr h => ?_)
  · exact pf_len h fun _ => rfl
  replace h := pf1 h
  obtain ⟨v, B, ls, rfl, hB, hv, ⟨few, pos⟩, k⟩ := h
  refine ⟨_, (pss_cons (ps_set (i := 1) sc_due.nd rfl (Or.inl rfl) (pe_lst pa_nil))
    (pss_cons (ps_for PassesOwn.never rfl (pi_list (pe_callB (cr_sortedD hr.units) (by rfl) n_sorted (by decide +kernel) (pa_cons (pe_cal C_once (hr.mono (by decide)) (by rfl) pass0 (pa_cons (pe_lc (own := [("letter", 3)]) (g := gName 3) (tt := tYes) rfl sc_due.nd (pi_list (pv 0)) (blkOk_by (own := [("letter", 3)]) (N := ["letters", "rows", "number", "letter", "last", "words"]) (sc := defScope s_due) (by decide +kernel)) (fun _ _ _ _ _ => (pg_name (i := 3) sc_due.nd rfl (Or.inl rfl))) (fun _ _ _ _ _ => pts_nil) (fun _ _ _ _ _ => (pe_ix (r := rIxT K) ix_tup (pv 3) pe_int (fun _ _ => rfl)))) pa_nil)) pa_nil))) (pg_name (i := 2) sc_due.nd rfl (Or.inr rfl)) (pss_cons (ps_set (i := 4) sc_due.nd rfl (Or.inr rfl) (pe_callB (cr_max rfl) (by rfl) n_max (by decide +kernel) (pa_cons (pe_lc (own := [("letter", 3)]) (g := gName 3) rfl sc_due.nd (pi_list (pv 0)) (blkOk_by (own := [("letter", 3)]) (N := ["letters", "rows", "number", "letter", "last", "words"]) (sc := defScope s_due) (by decide +kernel)) (fun _ _ _ _ _ => (pg_name (i := 3) sc_due.nd rfl (Or.inl rfl))) (fun _ _ _ _ _ => pts_one (pt_cmpR op_eq (pe_ix (r := rIxT K) ix_tup (pv 3) pe_int (fun _ _ => rfl)) (pv 2) (nomark _))) (fun _ _ _ _ _ => (pe_ix (r := rIxT K) ix_tup (pv 3) pe_int (fun _ _ => rfl)))) pa_nil)))
      (pss_cons (ps_set (i := 5) sc_due.nd rfl (Or.inl rfl) (pe_cal C_once (hr.mono (by decide)) (by rfl) pass0 (pa_cons (pe_lc (own := [("letter", 3)]) (g := gName 3) rfl sc_due.nd (pi_list (pv 0)) (blkOk_by (own := [("letter", 3)]) (N := ["letters", "rows", "number", "letter", "last", "words"]) (sc := defScope s_due) (by decide +kernel)) (fun _ _ _ _ _ => (pg_name (i := 3) sc_due.nd rfl (Or.inl rfl))) (fun _ _ _ _ _ => pts_one (pt_cmpR (r := rEqD K) (op_eqD hr.units) (pe_slice (r := rSlA K) sl_tupA (pv 3) po_none (po_some pe_int)) (pe_tup (pa_cons (pv 2) (pa_cons (pv 4) pa_nil))) (nomark _))) (fun _ _ _ _ _ => (pe_ix (r := rIxT K) ix_tup (pv 3) pe_int (fun _ _ => rfl)))) pa_nil)))
      (pss_one (ps_expr (pe_bm PySem.F.plainAttrs_list PySem.F.slot_list_append PySem.F.type_list_append mt_append (pv 1) (pa_cons (pe_tup (pa_cons (pv 2) (pa_cons (pv 4) (pa_cons (pe_callTy call_tuple_of (by rfl) n_tuple (by decide +kernel) (pa_cons (pe_callB (cr_sortedD hr.units) (by rfl) n_sorted (by decide +kernel) (pa_cons (pv 5) pa_nil)) pa_nil)) pa_nil)))) pa_nil)))))))
    (pss_one (ps_ret (pe_callTy call_tuple_of (by rfl) n_tuple (by decide +kernel) (pa_cons (pv 1) pa_nil)))))), ?_⟩
  have few : ls.length ≤ 60 := few
  have pos : Pos ls := pos
  have line := sizeLine_eq
  have nl : (once (nums ls)).length ≤ 60 := Nat.le_trans (once_len _) (by unfold nums; rw [List.length_map]; exact few)
  refine ⟨Nat.zero_le _, fun M hM => ?_⟩
  change tSeq _ _ _ [some v, some (.ref M), none, none, none, none] (upd H M (.lst []))
  have lts : ∀ {σ : L2.St} {B' : Hp}, σ[0]? = some (some v) → Same B B' → Di (iList K (tVar 0)) σ B' (ls.map fun x => dat K (ltD x)) := fun hs s => Di.listM (f := ltD) (.var (Mo.mo s hv) hs)
  refine s_forX (B0 := B) (H0 := H) (Ext.newH hB hM) (Di.listM (K := K) (as := sortI (once (nums ls))) (f := .int) (De.eq (De.sorted (De.once (enc := PyData.int) (l := nums ls) (De.eq (De.lcA (K := K) (as := ls) (r := fun x => dat K (ltD x)) (lts rfl (Same.refl _)) (fun x => .int x.1) (by omega) fun x u Bn Hn _ _ _ hx => ⟨[some v, some (.ref M), none, some u, none, none], fun Q q => q, rfl, .op (r := rIxT K) (.var hx rfl) .int (Rv.ixTD rfl)⟩) (by unfold nums; rw [List.map_map]; rfl)) (by unfold nums; rw [List.length_map]; exact few) eqv_int (fun _ => rfl) (fun _ => by simp [PyData.depth])) (alike_intsL _) (.inr fun d hd => ?_) fun d hd => ?_) (by rw [sortD_ints]))) (fun i σ B' H' => ∃ v2 v3 v4 v5 xs, σ = [some v, some (.ref M), v2, v3, v4, v5] ∧ Hid B' H' M (.lst xs) ∧ AllR ((((sortI (once (nums ls))).take i).map fun n => rwD (rowOf ls n)).map (dat K)) B' xs) (fun B1 H1 e => ⟨none, none, none, none, [], rfl, (Hid.new hB hM).ext e, rfl⟩) ?_ ?_
  · obtain ⟨a, _, rfl⟩ := List.mem_map.mp hd
    exact ⟨(fun z => nomatch z), (fun _ z => nomatch z)⟩
  · obtain ⟨a, _, rfl⟩ := List.mem_map.mp hd
    simp [PyData.depth]
  · rintro B1 i R x σ' Bc Hc Bn Hn s1 hR e1 s2 ⟨v2, v3, v4, v5, xs, rfl, m, hxs⟩ e2 hx
    rw [List.getElem?_map] at hR
    obtain ⟨n, hn, rfl⟩ := Option.map_eq_some_iff.mp hR
    have hx := dat_int hx
    subst hx
    have mem : n ∈ nums ls := mem_once.mp (mem_sortI.mp (List.mem_of_getElem? hn))
    obtain ⟨mp, mu⟩ := max_last pos mem
    have sB := (s1.trans s2).trans e2.bb
    have e12 := e1.trans e2
    refine s_set (.cb (.cons (De.eq (De.lcD (K := K) (as := ls) (r := fun x => dat K (ltD x)) (lts rfl sB) (fun x => decide (x.1 = n)) (fun x => .int x.2.1) (by omega) fun x u B5 H5 _ s5 _ hx => ⟨[some v, some (.ref M), some (.int n), some u, v4, v5], fun Q q => q, rfl, Dt.eq (Dt.test (De.op (r := rEq) (De.op (r := rIxT K) (.var hx rfl) .int (Rv.ixTD rfl)) (.var (Dp.int n) rfl) Rv.eqI)) rfl, fun _ => .op (r := rIxT K) (.var hx rfl) .int (Rv.ixTD rfl)⟩) (e := .list (((ls.filter fun x => decide (x.1 = n)).map (·.2.1)).map .int)) (by rw [List.map_map]; rfl)) .nil) (rc_max mp mu)) e2.bh fun v6 B6 H6 e6 h6 => ?_
    have h6 := dat_int h6
    subst h6
    have sB6 := sB.trans e6.bb
    refine s_set (De.once (enc := wordD) (l := (ls.filter fun x => decide (x.1 = n ∧ x.2.1 = last ls n)).map (·.2.2)) (De.eq (De.lcD (K := K) (as := ls) (r := fun x => dat K (ltD x)) (lts rfl sB6) (fun x => decide (x.1 = n ∧ x.2.1 = last ls n)) (fun x => wdD x.2.2) (by omega) fun x u B7 H7 _ s7 _ hx => ⟨[some v, some (.ref M), some (.int n), some u, some (.int (last ls n)), v5], fun Q q => q, rfl, ?_, fun _ => .op (r := rIxT K) (.var hx rfl) .int (Rv.ixTD rfl)⟩) (by rw [List.map_map]; rfl)) ?_ eqv_word lay_word (fun x => Nat.le_trans (depth_word x) (by decide))) e6.bh fun v8 B8 H8 e8 h8 => ?_
    · have e2 : cutA [PyData.int x.1, .int x.2.1, wdD x.2.2] none (some 2) = [.int x.1, .int x.2.1] := rfl
      refine Dt.eq (Dt.test (De.op (r := rEqD K) (De.slA (ds := [.int x.1, .int x.2.1, wdD x.2.2]) (lo := none) (hi := some 2) (.var hx rfl) .none (.some (De.int (K := K))) (fun z => absurd (show HT.sIx 3 3 (some 2) = 3 from z.2) (by decide))) (De.tupD (ds := [.int n, .int (last ls n)]) (.cons (.var (Dp.int n) rfl) (.cons (.var (Dp.int _) rfl) .nil)) (by show 2 ≤ sizeLine; omega)) (Rv.eqD (by rw [e2]; rfl) rfl))) ?_
      rw [e2]
      simp only [PyData.eqv, PyData.eqvAll, eqv_int]
      by_cases p : x.1 = n <;> by_cases q : x.2.1 = last ls n <;> simp [p, q]
    · rw [List.length_map]
      exact Nat.le_trans (List.length_filter_le _ _) few
    have e14 := (e12.trans e6).trans e8
    have m4 := ((m.ext e2).ext e6).ext e8
    have h8 : dat K (.list ((once (Ta.wordsOf ls n)).map wordD)) B8 v8 := h8
    refine ⟨_, rfl, .inl ⟨rfl, _, SqL.of m4.at_⟩, ?_⟩
    refine De.tupD (K := K) (ds := [.int n, .int (last ls n), .tuple ((sortW (once (Ta.wordsOf ls n))).map wordD)]) (.cons (.var (Dp.int n) rfl) (.cons (.var (Dp.int _) rfl) (.cons (De.tupleL (De.eq (De.sorted (.var h8 rfl) (alike_words _) (.inl fun d hd => ?_) fun d hd => ?_) (by rw [sortD_words]))) .nil))) (by show 3 ≤ sizeLine; omega) B8 H8 (Same.refl _) e8.bh _ fun y B9 H9 e9 hy => ?_
    · obtain ⟨a, _, rfl⟩ := List.mem_map.mp hd
      exact ⟨_, rfl⟩
    · obtain ⟨a, _, rfl⟩ := List.mem_map.mp hd
      exact Nat.le_trans (depth_word a) (by decide)
    have m9 := m4.ext e9
    have len := allR_len hxs
    rw [List.length_map, List.length_map, List.length_take] at len
    have sl := (sortI_perm (once (nums ls))).length_eq
    refine ⟨M, xs, y, rfl, rfl, m9.at_, by omega, ?_⟩
    refine ⟨B9, (e14.trans e9).setH m9 hM, ((s2.trans e2.bb).trans (e6.bb.trans e8.bb)).trans e9.bb, _, _, _, _, xs ++ [y], rfl, m9.set, ?_⟩
    rw [take_snoc hn, List.map_append, List.map_append]
    exact allR_snoc (MoA.mo ((e2.bb.trans e6.bb).trans (e8.bb.trans e9.bb)) hxs) hy
  · rintro σ1 B1 H1 e1 s1 ⟨v2, v3, v4, v5, xs, rfl, m, hxs⟩
    rw [List.length_map, List.take_length] at hxs
    have eO := e1.settleH m hM (none_of hB hM)
    have hl : dat K (.list ((tally ls).map rwD)) (upd B1 M (.lst xs)) (.ref M) := by
      unfold tally
      rw [List.map_map]
      exact Dp.lst (SqL.of upd_same) (allR_dp (MoA.mo (new_same m.no) hxs))
    exact s_ret (De.tupleL (.var hl rfl)) eO.bh fun v' B2 H2 e2 h2 => k v' B2 H2 (eO.trans e2) h2
end
end K30

set_option Elab.async false
set_option linter.all false
set_option maxRecDepth 100000
set_option maxHeartbeats 4000000
/-! K30h: letters that are drawn. -/
namespace K30
open PySem PySem.Spec PyProof.Rows L2 Wb Wv Fm Ta
structure LtOk (x : Lt) : Prop where
  n0 : 0 ≤ x.1
  nb : x.1 < 2 ^ 60
  e0 : 0 ≤ x.2.1
  eb : x.2.1 < 2 ^ 60
  wl : x.2.2.length ≤ 3
  ws : ∀ i ∈ x.2.2, i.natAbs ≤ 8
abbrev shs (qs : Qs) : List Wd := grow (qs.map fun q => rng (-1) ((q.2 : Int) - -1).toNat)
def WqOk (qs : Qs) (u : Wd) : Prop := u = [] ∨ u ∈ shs qs
def LsOk (qs : Qs) (ls : List Lt) : Prop := ls.length ≤ 12 ∧ ∀ x ∈ ls, LtOk x ∧ WqOk qs x.2.2
abbrev sp_lletters (K : PySem.W.Frag) : Sp := DPf (α := Qs × Int) (fun a => [dat K (qsD a.1), dat K (.int a.2)]) (fun a => FOk a.1 ∧ 0 ≤ a.2 ∧ a.2 ≤ 12) (fun a => datP K fun x => ∃ ls : List Lt, x = .list (ls.map ltD) ∧ LsOk a.1 ls ∧ (ls.length : Int) = a.2)
def WdP (qs : Qs) (x : PyData) : Prop := ∃ u : Wd, x = wdD u ∧ u.length ≤ 3 ∧ (∀ i ∈ u, i.natAbs ≤ 8) ∧ WqOk qs u
theorem picks_mem {α : Type} {r : List α} {ls : List (List α)} (h : Picks r ls) : ∀ i ∈ r, ∃ l ∈ ls, i ∈ l := fun i hi => by
  obtain ⟨j, hj, rfl⟩ := List.mem_iff_getElem.mp hi
  have lj : j < ls.length := by rw [← picks_len h]; exact hj
  obtain ⟨v, hv, hm⟩ := picks_at h (List.getElem?_eq_getElem lj)
  rw [List.getElem?_eq_getElem hj] at hv
  cases hv
  exact ⟨_, List.getElem_mem lj, hm⟩
theorem grow_ge {α : Type} : ∀ (n : Nat) {ls : List (List α)}, ls.length = n → (∀ l ∈ ls, 2 ≤ l.length) → n + 1 ≤ (grow ls).length
  | 0, ls, h, _ => by
    have := List.eq_nil_of_length_eq_zero h
    subst this
    exact Nat.le_refl _
  | n + 1, ls, h, hl => by
    rcases List.eq_nil_or_concat ls with e | ⟨init, l, e⟩
    · subst e
      cases h
    · rw [List.concat_eq_append] at e
      subst e
      have li : init.length = n := by simpa using h
      have ih := grow_ge n li fun l hm => hl l (List.mem_append_left _ hm)
      have l2 := hl l (List.mem_append_right _ (List.mem_singleton.mpr rfl))
      rw [grow_snoc, grow1_len]
      have := Nat.mul_le_mul ih l2
      omega
theorem intC {C : Int → Int → Prop} {f : Int → Int → Int} {P P' T : Int → Prop} {B : Hp} (h : ∀ i j, P i → P' j → C i j ∧ T (f i j)) : Rv (rI C fun i j => V.int (f i j)) B (intP P) (intP P') (intP T) := fun x y B1 H _ s2 ⟨i, hi, hx⟩ ⟨j, hj, hy⟩ Q q =>
  ⟨i, j, hx, hy, (h i j hi hj).1, q _ B1 H (.refl s2) ⟨_, (h i j hi hj).2, rfl⟩⟩
section
variable {P : Program} {w : World} {K : PySem.W.Frag} {mg : Str → Option Value} {base : Heap} {C_Form C_Tally C_InvalidSize C_BlankError C_InvalidForm C_InvalidSheets : Addr}
theorem sc_lletters : FnScope ["deal", "questions", "many", "sheets", "some", "great", "few", "turn", "word"] ["deal", "questions", "many"] (defScope s_lletters) := ⟨rfl, rfl, rfl, by decide +kernel, rfl, by decide +kernel, by decide +kernel⟩
theorem ok_lletters (D : Def K mg "_law_letters" s_lletters ["deal", "questions", "many"]) (C_lrows : Cal P w K mg base CX0 1 "_law_rows" s_lrows ["questions", "least"] (sp_lrows K)) (C_of : Cal P w K mg base CX0 2 "_law_of" s_of ["deal", "some"] (spOf K)) (n_range : mg "range" = none) (C_any : Cal P w K mg base CX0 1 "_law_any" s_any ["deal", "bound"] spAny) : Cal P w K mg base CX0 3 "_law_letters" s_lletters ["deal", "questions", "many"] (sp_lletters K) := by
  refine D.ok sc_lletters (fun vs H Q E h => ?_) (fun cdv f A outer s H vs Q E hr h => ?_)
  · exact dpf_len h fun _ => rfl
  replace h := dpf2 h
  obtain ⟨d, v1, v2, c, B, ⟨qs, many⟩, rfl, L, h1, h2, ⟨fo, m0, m7⟩, k⟩ := h
  refine ⟨_, (pss_cons (ps_par (i := 3) (j := 4) rfl sc_lletters.nd rfl rfl (by decide) rfl rfl (pa_cons (pe_cal C_lrows (hr.mono (by decide)) (by rfl) pass0 (pa_cons (pv 1) (pa_cons (pe_op op_sub pe_int pe_int) pa_nil))) (pa_cons (pe_lst pa_nil) pa_nil)) (by rfl))
    (pss_cons (ps_set (i := 5) sc_lletters.nd rfl (Or.inl rfl) (pe_cal C_of (hr.mono (by decide)) (by rfl) pass0 (pa_cons (pv 0) (pa_cons (pe_lst (pa_cons pe_int (pa_cons pe_int (pa_cons pe_int (pa_cons (pe_op op_pow pe_int pe_int) pa_nil))))) pa_nil))))
    (pss_cons (ps_set (i := 6) sc_lletters.nd rfl (Or.inl rfl) (pe_cal C_of (hr.mono (by decide)) (by rfl) pass0 (pa_cons (pv 0) (pa_cons (pe_lst (pa_cons pe_int (pa_cons pe_int (pa_cons pe_int pa_nil)))) pa_nil))))
    (pss_cons (ps_for PassesOwn.never rfl (pi_range1 rfl n_range (pa_cons (pv 2) pa_nil)) (pg_name (i := 7) sc_lletters.nd rfl (Or.inl rfl)) (pss_cons (ps_set (i := 8) sc_lletters.nd rfl (Or.inl rfl) (pe_cal C_of (hr.mono (by decide)) (by rfl) pass0 (pa_cons (pv 0) (pa_cons (pe_lst (pa_cons (pe_tup pa_nil) (pa_cons (pe_cal C_of (hr.mono (by decide)) (by rfl) pass0 (pa_cons (pv 0) (pa_cons (pv 3) pa_nil))) (pa_cons (pe_cal C_of (hr.mono (by decide)) (by rfl) pass0 (pa_cons (pv 0) (pa_cons (pv 3) pa_nil))) (pa_cons (pe_ix ix_list (pv 3) (pe_cal C_any (hr.mono (by decide)) (by rfl) pass0 (pa_cons (pv 0) (pa_cons pe_int pa_nil))) (fun _ _ => rfl)) pa_nil))))) pa_nil))))
      (pss_one (ps_expr (pe_bm PySem.F.plainAttrs_list PySem.F.slot_list_append PySem.F.type_list_append mt_append (pv 4) (pa_cons (pe_tup (pa_cons (pe_op op_mulW (pe_cal C_any (hr.mono (by decide)) (by rfl) pass0 (pa_cons (pv 0) (pa_cons (pv 6) pa_nil))) (pv 5)) (pa_cons (pe_op op_mulW (pe_cal C_any (hr.mono (by decide)) (by rfl) pass0 (pa_cons (pv 0) (pa_cons pe_int pa_nil))) (pv 5)) (pa_cons (pv 8) pa_nil)))) pa_nil))))))
    (pss_one (ps_ret (pv 4))))))), ?_⟩
  have line := sizeLine_eq
  have h2 := dat_int h2
  subst h2
  have fo : FOk qs := fo
  have m0 : 0 ≤ many := m0
  have m7 : many ≤ 12 := m7
  obtain ⟨n, rfl⟩ := Int.eq_ofNat_of_zero_le m0
  have f3 : qs.length ≤ 3 := fo.few
  have sm : Small qs := ⟨by omega, fun q h => by have := (fo.two q h).2; omega⟩
  let sheets := grow (qs.map fun q => rng (-1) ((q.2 : Int) - -1).toNat)
  have sg : ∀ a ∈ sheets, a.length ≤ 3 ∧ ∀ i ∈ a, i.natAbs ≤ 8 := fun a ha => by
    refine ⟨by rw [grow_row ha, List.length_map]; exact f3, fun i hi => ?_⟩
    obtain ⟨l, hl, hil⟩ := picks_mem (grow_picks _ a ha) i hi
    obtain ⟨q, hq, rfl⟩ := List.mem_map.mp hl
    have := (fo.two q hq).2
    unfold rng at hil
    obtain ⟨k, hk, rfl⟩ := List.mem_map.mp hil
    rw [List.mem_range] at hk
    omega
  have wide : ∀ l ∈ (qs.map fun q => rng (-1) ((q.2 : Int) - -1).toNat), 2 ≤ l.length ∧ l.length ≤ 4 := fun l hl => by
    obtain ⟨q, hq, rfl⟩ := List.mem_map.mp hl
    have := fo.two q hq
    rw [rng_len]
    omega
  have s2 : 2 ≤ sheets.length := by
    have := grow_ge _ rfl fun l hl => (wide l hl).1
    rw [List.length_map] at this
    have f1 : 1 ≤ qs.length := fo.pos
    show 2 ≤ (grow _).length
    omega
  have sl : sheets.length ≤ 1000 := by
    have := grow_len (m := 4) _ fun l hl => (wide l hl).2
    rw [List.length_map] at this
    have p : 4 ^ qs.length ≤ 4 ^ 3 := Nat.pow_le_pow_right (by decide) f3
    show (grow _).length ≤ 1000
    omega
  refine s_parR ((De.call (args := fun a : Qs × Int => [dat K (qsD a.1), dat K (.int a.2)]) (res := fun a => dat K (rowsL (grow (a.1.map fun q => rng a.2 ((q.2 : Int) - a.2).toNat)))) (qs, -1) (.cons (.var h1 rfl) (.cons (De.op .int .int Rv.I0) .nil)) ⟨sm, (by show (-1 : Int) ≤ -1; decide), (by show (-1 : Int) ≤ 0; decide)⟩) B H (Same.refl _) L.bh _ fun u3 B1 H1 e1 h3 => ?_)
  refine ⟨Nat.zero_le _, fun M hM => ?_⟩
  have hHM : H M = none := Ext.oldH e1 hM
  have e1 := ExtD.of L e1
  obtain ⟨ml, e2⟩ := Ml.new (xs := []) e1.dl hM
  have e12 := e1.trans L e2
  have h3 : dat K (rowsL sheets) B1 u3 := h3
  refine s_w e12.dl (Dw.pick (S := intP fun k => 0 ≤ k ∧ k ≤ 10 ^ 15) rfl (.cons (.cv Dw.int fun _ _ ⟨j, hj, hv⟩ => ⟨j, by omega, hv⟩) (.cons (.cv Dw.int fun _ _ ⟨j, hj, hv⟩ => ⟨j, by omega, hv⟩) (.cons (.cv Dw.int fun _ _ ⟨j, hj, hv⟩ => ⟨j, by omega, hv⟩) (.cons ?_ .nil)))) (by decide) (by decide)) fun u5 B5 H5 e5 h5 => ?_
  · exact .cv (Dw.of (R := dat K (.int 1000000000000000)) (De.eq (De.op .int .int (Rv.I ⟨by decide, by decide, by decide⟩)) (congrArg PyData.int (by decide)))) fun B v hv => ⟨1000000000000000, by decide, dat_int hv⟩
  obtain ⟨great, hg, rfl⟩ := h5
  have e15 := e12.trans L e5
  refine s_w e15.dl (Dw.pick (S := intP fun k => 1 ≤ k ∧ k ≤ 9) rfl (.cons (.cv Dw.int fun _ _ ⟨j, hj, hv⟩ => ⟨j, by omega, hv⟩) (.cons (.cv Dw.int fun _ _ ⟨j, hj, hv⟩ => ⟨j, by omega, hv⟩) (.cons (.cv Dw.int fun _ _ ⟨j, hj, hv⟩ => ⟨j, by omega, hv⟩) .nil))) (by decide) (by decide)) fun u6 B6 H6 e6 h6 => ?_
  obtain ⟨fw, hf, rfl⟩ := h6
  have e16 := e15.trans L e6
  have ml := (ml.ext e5).ext e6
  have sB := (e1.bb.trans e2.bb).trans (e5.bb.trans e6.bb)
  have h3 := Mo.mo (e2.bb.trans (e5.bb.trans e6.bb)) h3
  change tSeq _ _ _ [some (.ref d), some v1, some (.int (n : Int)), some u3, some (.ref M), some (.int great), some (.int fw), none, none] H6
  refine s_forD L e16 (Di.rng (K := K) (n := n) (.var (Dp.int _) rfl) (by omega)) (fun i σ B' H' => ∃ (v7 v8 : Option V) (xs : List V) (ls : List Lt), σ = [some (.ref d), some v1, some (.int (n : Int)), some u3, some (.ref M), some (.int great), some (.int fw), v7, v8] ∧ Ml d c B' H' M xs ∧ AllR ((ls.map ltD).map (dat K)) B' xs ∧ ls.length = i ∧ ∀ x ∈ ls, LtOk x ∧ WqOk qs x.2.2) (fun B7 H7 e7 => ⟨none, none, [], [], rfl, ml.ext e7, rfl, rfl, fun x h => nomatch h⟩) ?_ ?_
  · rintro B7 i R x σ' Bc Hc Bn Hn s1 hR e7 s3 ⟨v7, v8, xs, ls, rfl, m, hxs, li, lok⟩ e8 hx
    rw [List.getElem?_map] at hR
    obtain ⟨i', hi', rfl⟩ := Option.map_eq_some_iff.mp hR
    have il : i < n := by
      have := (List.getElem?_eq_some_iff.mp hi').1
      rwa [List.length_range] at this
    have hx := dat_int hx
    subst hx
    have e78 := e7.trans L e8
    have m8 := m.ext e8
    have h3 := Mo.mo ((s1.trans s3).trans e8.bb) h3
    change tSeq _ _ _ [some (.ref d), some v1, some (.int (n : Int)), some u3, some (.ref M), some (.int great), some (.int fw), some (.int (i' : Int)), v8] Hn
    -- a word
    have ne : sheets.map rowD ≠ [] := fun z => by
      have := congrArg List.length z
      rw [List.length_map] at this
      show False
      have h0 : sheets.length = 0 := this
      omega
    have sw : ∀ {B : Hp} {v : V}, datP K (fun x => x ∈ sheets.map rowD) B v → datP K (WdP qs) B v := fun {B v} ⟨x, hx, hv⟩ => by
      obtain ⟨a, ha, rfl⟩ := List.mem_map.mp hx
      exact ⟨_, ⟨a, rfl, (sg a ha).1, (sg a ha).2, .inr ha⟩, hv⟩
    have h3' : dat K (.list (sheets.map rowD)) Bn u3 := h3
    have pick : Dw (tCall (spOf K) [] E0 (tCons (tVar 0) (tCons (tVar 3) tNil))) [some (.ref d), some v1, some (.int (n : Int)), some u3, some (.ref M), some (.int great), some (.int fw), some (.int (i' : Int)), v8] d c Bn (datP K (WdP qs)) :=
      .cv (Dw.ofL rfl (.var h3' rfl) ne (by rw [List.length_map]; exact sl)) fun B v h => sw h
    refine s_w e78.dl (Dw.pick (S := datP K (WdP qs)) rfl (.cons (.cv (Dw.of (De.tupD (K := K) (ds := []) .nil (by show 0 ≤ sizeLine; omega))) fun B v hv => ⟨_, ⟨[], rfl, by decide, (fun i h => nomatch h), .inl rfl⟩, hv⟩) (.cons pick (.cons pick (.cons ?_ .nil)))) (by decide) (by decide)) fun u9 B9 H9 e9 h9 => ?_
    · intro B0 H0 s L0 Q0 k0
      refine ⟨u3, rfl, c_any (K := K) L0 rfl .int (by decide) (by decide) fun r B2 H2 r0 r1 e => ?_⟩
      have lt : r.toNat < sheets.length := by omega
      have at_ : atI (sheets.map rowD) r = some (rowD sheets[r.toNat]) := by
        have h : atI (sheets.map rowD) ((r.toNat : Nat) : Int) = some (rowD sheets[r.toNat]) := atI_nat (by rw [List.getElem?_map, List.getElem?_eq_getElem lt]; rfl)
        rwa [show ((r.toNat : Nat) : Int) = r by omega] at h
      have hm : sheets[r.toNat] ∈ sheets := List.getElem_mem lt
      exact Rv.ixLD at_ u3 (.int r) B2 H2 (Same.refl _) e.dl.bh (Mo.mo (s.trans e.bb) h3') (.int r) Q0 fun v B3 H3 e3 hv => k0 v B3 H3 (e.trans L0 (.of e.dl e3)) ⟨_, ⟨_, rfl, (sg _ hm).1, (sg _ hm).2, .inr hm⟩, hv⟩
    obtain ⟨_, ⟨wd, rfl, wl, ws, wq⟩, h9⟩ := h9
    have e79 := e78.trans L e9
    have m9 := m8.ext e9
    refine ⟨_, rfl, .inl ⟨rfl, _, SqL.of m9.at_⟩, ?_⟩
    have tup : Dw (tTup (tCons (tOp (rI CMulW fun i j => V.int (i * j)) (tCall spAny [] E0 (tCons (tVar 0) (tCons (tVar 6) tNil))) (tVar 5)) (tCons (tOp (rI CMulW fun i j => V.int (i * j)) (tCall spAny [] E0 (tCons (tVar 0) (tCons (tC (.int 3)) tNil))) (tVar 5)) (tCons (tVar 8) tNil)))) [some (.ref d), some v1, some (.int (n : Int)), some u3, some (.ref M), some (.int great), some (.int fw), some (.int (i' : Int)), some u9] d c B9 (tupR K [intP fun k => 0 ≤ k ∧ k < 2 ^ 60, intP fun k => 0 ≤ k ∧ k < 2 ^ 60, dat K (wdD wd)]) := by
      have go : ∀ {i j b : Int}, 0 ≤ i → i < b → b ≤ 9 → j = great → CMulW i j ∧ 0 ≤ i * j ∧ i * j < 2 ^ 60 := fun {i j b} h0 h1 h2 h3 => by
        rw [h3]
        refine ⟨wide_mul (a := 60) (b := 60) (by omega) (by omega) (by decide) (by decide) (by decide), Int.mul_nonneg h0 hg.1, ?_⟩
        have a : i * great ≤ 9 * 10 ^ 15 := Int.mul_le_mul (by omega) hg.2 hg.1 (by decide)
        omega
      exact Dw.tup (K := K) (Dwa.cons (Dw.op (Dw.any (K := K) rfl (.var (Dp.int fw) rfl) (by omega) (by omega)) (Dw.intV rfl) fun B => intC fun i j hi hj => go hi.1 hi.2 hf.2 hj) (Dwa.cons (Dw.op (Dw.any (K := K) rfl .int (by decide) (by decide)) (Dw.intV rfl) fun B => intC fun i j hi hj => go hi.1 hi.2 (by decide) hj) (Dwa.one (.of (.var (R := dat K (wdD wd)) h9 rfl))))) (by rw [line]; show 3 ≤ _; decide)
    refine tup B9 H9 (Same.refl _) e79.dl _ fun y B10 H10 e10 hy => ?_
    obtain ⟨a, zs, rfl, hs, x1, r1, rfl, ⟨n1, hn1, hx1⟩, x2, r2, rfl, ⟨n2, hn2, hx2⟩, x3, r3, rfl, hx3, hr⟩ := hy
    have hr : r3 = [] := hr
    subst hr hx1 hx2
    have m10 := m9.ext e10
    have len := allR_len hxs
    rw [List.length_map, List.length_map, li] at len
    refine ⟨M, xs, .ref a, rfl, rfl, m10.at_, by omega, ?_⟩
    have e710 := e79.trans L e10
    refine ⟨B10, e710.setL m10 hHM, ((s3.trans e8.bb).trans e9.bb).trans e10.bb, _, _, xs ++ [.ref a], ls ++ [(n1, n2, wd)], rfl, (Ml.set e710.dl m10).1, ?_, by rw [List.length_append, li]; rfl, fun x hx => ?_⟩
    · rw [List.map_append, List.map_append]
      exact allR_snoc (MoA.mo ((e8.bb.trans e9.bb).trans e10.bb) hxs) (Dp.tup hs (.cons (.int n1) (.cons (.int n2) (.cons hx3 .nil))))
    · rcases List.mem_append.mp hx with hx | hx
      · exact lok x hx
      · rw [List.mem_singleton] at hx
        subst hx
        exact ⟨⟨hn1.1, hn1.2, hn2.1, hn2.2, wl, ws⟩, wq⟩
  · rintro σ1 B7 H7 e7 s1 ⟨v7, v8, xs, ls, rfl, m, hxs, li, lok⟩
    rw [List.length_map, List.length_range] at li
    have h4 : dat K (.list (ls.map ltD)) (upd B7 M (.lst xs)) (.ref M) := m.dat hxs
    exact s_retW (ExtD.settle e7 m hHM).dl (Dw.of (.var (R := dat K (.list (ls.map ltD))) h4 rfl)) fun v B8 H8 e8 h8 => k v B8 H8 ((ExtD.settle e7 m hHM).trans L e8) ⟨_, ⟨ls, rfl, ⟨by omega, lok⟩, by show (ls.length : Int) = (n : Int); omega⟩, h8⟩
end
end K30

set_option Elab.async false
set_option linter.all false
set_option maxRecDepth 100000
set_option maxHeartbeats 4000000
/-! We2: str of what is no list; written lists of drawn things, raw; hidden lists looked at while a deal is drawn from. -/
namespace Wv
open PySem PySem.Spec PyProof.Rows L2 Wb
section
variable {X : Cx}
abbrev rStrA : List V → Hp → VK → Prop := fun xs H Q => (∃ a, xs = [.str a] ∧ Q (.str a) H) ∨ (∃ i, xs = [.int i] ∧ i.natAbs.log2 < 1920 ∧ Q (.str (toString i)) H) ∨ (∃ b : Bool, xs = [.bl b] ∧ Q (.str (if b then "True" else "False")) H) ∨ (xs = [.non] ∧ Q (.str "None") H)
theorem call_strA : CallR X (.type "str") rStrA := by
  intro pins s σ H xs us Q I r h
  rcases h with ⟨a, rfl, q⟩ | ⟨i, rfl, hz, q⟩ | ⟨b, rfl, q⟩ | ⟨rfl, q⟩
  · obtain ⟨u, rfl, t, rfl⟩ := vals1 r
    exact PySem.P.str_of_str ⟨.str a, H, I, ⟨t, rfl⟩, q⟩
  · exact call_str_int pins s σ H _ us Q I r ⟨i, rfl, hz, q⟩
  · obtain ⟨u, rfl, r1⟩ := vals1 r
    cases r1
    exact PySem.P.str_of_bool ⟨.str _, H, I.tok _, ⟨_, rfl⟩, q⟩
  · obtain ⟨u, rfl, r1⟩ := vals1 r
    cases r1
    exact PySem.P.str_of_none ⟨.str _, H, I.tok _, ⟨_, rfl⟩, q⟩
end
section
variable {K : PySem.W.Frag} {σ : L2.St} {d c M : Addr} {B H : Hp} {te tr : TE} {ta : TA} {S : Rel} {E : XK} {i j n : Nat} {Q : VK} {P : PyData → Prop} {xs : List V}
theorem all_ds : ∀ {xs : List V}, (∀ v ∈ xs, datP K P B v) → ∃ ds : List PyData, AllR (ds.map (dat K)) B xs ∧ ds.length = xs.length ∧ ∀ x ∈ ds, P x
  | [], _ => ⟨[], rfl, rfl, fun x h => nomatch h⟩
  | x :: xs, h => by
    obtain ⟨d, hp, hd⟩ := h x List.mem_cons_self
    obtain ⟨ds, h1, h2, h3⟩ := all_ds fun v hv => h v (List.mem_cons_of_mem _ hv)
    refine ⟨d :: ds, ⟨x, xs, rfl, hd, h1⟩, by simp [h2], fun y hy => ?_⟩
    rcases List.mem_cons.mp hy with rfl | hy
    · exact hp
    · exact h3 y hy
theorem ds_all : ∀ {ds : List PyData} {xs : List V}, AllR (ds.map (dat K)) B xs → (∀ x ∈ ds, P x) → ∀ v ∈ xs, datP K P B v
  | [], _, h, _, v, hv => by
    have h : _ = [] := h
    subst h
    cases hv
  | d :: ds, _, ⟨x, r, e, h1, h2⟩, hp, v, hv => by
    subst e
    rcases List.mem_cons.mp hv with rfl | hv
    · exact ⟨d, hp d List.mem_cons_self, h1⟩
    · exact ds_all h2 (fun x hx => hp x (List.mem_cons_of_mem _ hx)) v hv
/-- some of a written list, whose items were evaluated one by one -/
theorem fin_pick {vs : List V} {B1 H1 : Hp} (L : Dl B1 H1 d c) (l0 : 0 < vs.length) (l1 : vs.length ≤ 1000) (hs : ∀ v ∈ vs, S B1 v) (k : ∀ v B' H', ExtD d c B1 H1 B' H' → S B1 v → Q v H') :
    vs.length ≤ sizeLine ∧ ∀ p, H1 p = none → spOf K ([.ref d, .ref p] ++ []) (upd H1 p (.lst vs)) Q E := by
  refine ⟨by rw [sizeLine_eq]; omega, fun p hp => ?_⟩
  have e : ExtD d c B1 H1 (upd B1 p (.lst vs)) (upd H1 p (.lst vs)) := .of L (Ext.new L.bh hp)
  refine ⟨d, c, .ref p, rfl, e.deal, .inl ⟨p, vs, rfl, e.sub.seq (SqL.of upd_same), fun z => by rw [z] at l0; simp at l0, l1, fun v H3 hv D3 S3 => ?_⟩⟩
  exact k v _ H3 (.trans L e (.draw e.dl D3 S3)) (hs v hv)
theorem ixNn {n r : Nat} (h : r < n) : ixN n (r : Int) = some r := by
  unfold ixN
  rw [if_pos (by omega), if_pos (by omega)]
  simp
theorem atIn {xs : List V} {r : Nat} {v : V} (h : xs[r]? = some v) : atI xs (r : Int) = some v := by
  unfold atI
  rw [ixNn (List.getElem?_eq_some_iff.mp h).1]
  exact h
/-- a def of the deal and of an item of a hidden list -/
theorem c_defAt {α : Type} {args : α → List Rel} {pre : α → Prop} {res : α → Rel} {r : Nat} {v : V} (a : α) (L : Dl B H d c) (hd : σ[i]? = some (some (.ref d))) (hm : σ[j]? = some (some (.ref M))) (hn : σ[n]? = some (some (.int (r : Int)))) (m : Ml d c B H M xs) (hx : xs[r]? = some v)
    (ha : AllR (args a) B [v]) (hp : pre a) (k : ∀ u B' H', ExtD d c B H B' H' → res a B' u → Q u H') : tCall (DPf args pre res) [] E (tCons (tVar i) (tCons (tOp (rIxL K) (tVar j) (tVar n)) tNil)) σ H Q :=
  ⟨.ref d, hd, .ref M, hm, .int r, hn, M, xs, r, v, rfl, rfl, SqL.of m.at_, atIn hx, d, c, B, a, [v], rfl, L, ha, hp, k⟩
/-- .. an item of it drawn -/
theorem c_ixAny {xs : List V} (L : Dl B H d c) (hd : σ[i]? = some (some (.ref d))) (hm : σ[j]? = some (some (.ref M))) (m : Ml d c B H M xs) (pos : 0 < xs.length) (few : xs.length ≤ 1000) (k : ∀ (r : Nat) (v : V) H', xs[r]? = some v → ExtD d c B H B H' → Q v H') :
    tOp (rIxL K) (tVar j) (tCall spAny [] E (tCons (tVar i) (tCons (tCB (rLen K) (tCons (tVar j) tNil)) tNil))) σ H Q :=
  ⟨.ref M, hm, c_anyLen (K := K) L hd hm m pos few fun r H' hr e => by
    have m' := m.ext e
    have hx : xs[r]? = some xs[r] := List.getElem?_eq_getElem hr
    exact ⟨M, xs, r, xs[r], rfl, rfl, SqL.of m'.at_, atIn hx, k r _ H' hx e⟩⟩
theorem c_lcL {g : TG} {tt : TT} {vs : List Nat} (h : te σ H fun x H1 => ∃ a, x = .ref a ∧ (∃ xs, SqL K H1 a xs) ∧ tLc (fun _ H R => R (Itl K a) H) g tt tr vs σ H1 Q) : tLc (iList K te) g tt tr vs σ H Q := h
theorem s_ifB {tt : TT} {t rest : TS} {D : Ends} {b : Bool} (Post : L2.St → Hp → Prop) (h : Dt tt σ B b) (hB : Same B H) (k1 : b = true → ∀ B' H', Ext B H B' H' → ∀ Z : L2.St → Hp → Prop, (∀ σ2 H2, Post σ2 H2 → Z σ2 H2) → t { D with nx := Z } σ H')
    (k2 : b = false → ∀ B' H', Ext B H B' H' → Post σ H') (k : ∀ σ2 H2, Post σ2 H2 → rest D σ2 H2) : tSeq (tIfS tt t tNext) rest D σ H := s_ifS h hB (fun t B' H' e => k1 t B' H' e (rest D) k) fun f B' H' e => k _ _ (k2 f B' H' e)
theorem De.strI {m : Int} (h : De te σ B (dat K (.int m))) (b : m.natAbs.log2 < 1920) : De (tCB (fun xs H Q => ∃ i, xs = [.int i] ∧ i.natAbs.log2 < 1920 ∧ Q (.str (toString i)) H) (tCons te tNil)) σ B (dat K (.str (Str.ofString (toString m)))) := fun B1 H s1 s2 Q q => h B1 H s1 s2 _ fun v B2 H2 e hv => by
  have hv := dat_int hv
  subst hv
  exact ⟨m, rfl, b, q _ B2 H2 e (Dp.str _)⟩
theorem Dl.look (L : Dl B H d c) (m : Ml d c B H M xs) : Dl (upd B M (.lst xs)) H d c := ⟨L.deal, fun b o h => by
  by_cases n : b = M
  · subst n
    rw [upd_same] at h
    rw [off_at m.nd m.nc, m.at_]
    exact h
  · rw [upd_ne n] at h
    exact L.sub _ _ h⟩
theorem Ml.lookedD {B2 H2 : Hp} (L : Dl B H d c) (e : ExtD d c (upd B M (.lst xs)) H B2 H2) : ExtD d c B H B H2 := ⟨e.deal, e.oo, Same.refl _, L.sub.trans e.oo, fun _ _ h => h⟩
def leafD (d : PyData) : Bool := match d with
  | .none => true
  | .bool _ => true
  | .int _ => true
  | .str _ => true
  | _ => false
theorem dat_leaf {d : PyData} {B B' : Hp} {v : V} (h : leafD d = true) (hv : dat K d B v) : dat K d B' v := by
  cases hv with
  | non => exact Dp.non
  | bl b => exact Dp.bl b
  | int i => exact Dp.int i
  | str z => exact Dp.str z
  | lst _ _ => cases h
  | tup _ _ => cases h
theorem s_forR {g : TG} {ts rest : TS} {D : Ends} (h : te σ H fun v H1 => ∃ k : Int, [v] = [.int k] ∧ -(2 ^ 62) ≤ k ∧ k < 2 ^ 62 ∧ tSeq (tFor (fun _ H R => R (Itr 0 k.toNat) H) g ts) rest D σ H1) : tSeq (tFor (iRng1 (tCons te tNil)) g ts) rest D σ H := h
theorem c_insW {P : V → Hp → Prop} (L : Dl B H d c) (hd : σ[i]? = some (some (.ref d))) (hm : σ[j]? = some (some (.ref M))) (m : Ml d c B H M xs) (few : xs.length ≤ 1000)
    (h : ∀ (r : Int) H1, 0 ≤ r → r < 1002 → ExtD d c B H B H1 → Ml d c B H1 M xs → te σ H1 fun v H2 => rIns (.ref M) [.int r, v] H2 Q) :
    tBM K "list" rIns (tVar j) (tCons (tCall spAny [] E (tCons (tVar i) (tCons (tOp (rI0 fun i j => V.int (i + j)) (tCB (rLen K) (tCons (tVar j) tNil)) (tC (.int 1))) tNil))) (tCons te tNil)) σ H Q :=
  ⟨.ref M, hm, .inl ⟨rfl, xs, SqL.of m.at_⟩, .ref d, hd, .ref M, hm, .ref M, xs.length, rfl, .inl ⟨xs, SqL.of m.at_, rfl⟩, _, _, rfl, rfl, d, c, (xs.length : Int) + 1, rfl, L.deal, by omega, by omega, fun r H2 r0 r1 D2 S2 => by
    have e : ExtD d c B H B H2 := .draw L D2 S2
    exact h r H2 r0 (by omega) e (m.ext e)⟩
theorem s_un2 {rest : TS} {D : Ends} {R S : Rel} (h : De te σ B (tupR K [R, S])) (hB : Same B H) (k : ∀ x y B' H', Ext B H B' H' → R B' x → S B' y → rest D ((σ.set i (some x)).set j (some y)) H') : tSeq (tAsg te (gTup K 2 (gCons (gName i) (gCons (gName j) gNil)))) rest D σ H :=
  h B H (Same.refl _) hB _ fun v B' H' e hv => by
    obtain ⟨x, y, hx, hy, go⟩ := gTup2 (σ1 := σ) (i := i) (j := j) e.bh hv
    exact go _ (k x y B' H' e hx hy)
theorem s_un2E {D : Ends} {R S : Rel} (h : De te σ B (tupR K [R, S])) (hB : Same B H) (k : ∀ x y B' H', Ext B H B' H' → R B' x → S B' y → D.nx ((σ.set i (some x)).set j (some y)) H') : tAsg te (gTup K 2 (gCons (gName i) (gCons (gName j) gNil))) D σ H :=
  h B H (Same.refl _) hB _ fun v B' H' e hv => by
    obtain ⟨x, y, hx, hy, go⟩ := gTup2 (σ1 := σ) (i := i) (j := j) e.bh hv
    exact go _ (k x y B' H' e hx hy)
theorem s_ifW0 {tt : TT} {t rest : TS} {D : Ends} (Post : L2.St → Hp → Prop) (L : Dl B H d c) (h : Dtw tt σ d c B) (k1 : ∀ B' H', ExtD d c B H B' H' → ∀ Z : L2.St → Hp → Prop, (∀ σ2 H2, Post σ2 H2 → Z σ2 H2) → t { D with nx := Z } σ H')
    (k2 : ∀ B' H', ExtD d c B H B' H' → Post σ H') (k : ∀ σ2 H2, Post σ2 H2 → rest D σ2 H2) : tSeq (tIfS tt t tNext) rest D σ H := s_ifW L h (fun B' H' e => k1 B' H' e (rest D) k) fun B' H' e => k _ _ (k2 B' H' e)
end
end Wv

set_option Elab.async false
set_option linter.all false
set_option maxRecDepth 100000
set_option maxHeartbeats 1000000
/-! We3: < of tuples of ints. -/
namespace Wv
open PySem PySem.Spec PyProof.Rows L2 Wb
theorem lexLt_eq : ∀ a b : List Int, HT.lexLt a b = decide (a < b)
  | [], [] => by simp [HT.lexLt]
  | [], y :: b => by simp [HT.lexLt]
  | x :: a, [] => by simp [HT.lexLt]
  | x :: a, y :: b => by
    have ih := lexLt_eq a b
    simp only [HT.lexLt, ih]
    rw [Bool.eq_iff_iff, decide_eq_true_eq, List.cons_lt_cons_iff]
    by_cases h : x = y
    · subst h
      simp
    · simp [h]
section
variable {K : PySem.W.Frag} {B : Hp}
theorem Rv.ltT {a b : List Int} : Rv (rLtT K) B (dat K (.tuple (a.map .int))) (dat K (.tuple (b.map .int))) (dat K (.bool (decide (a < b)))) := fun x y B1 H _ s2 hx hy Q q => by
  cases hx with
  | tup hs hd =>
    cases hy with
    | tup hs2 hd2 =>
      refine ⟨_, _, a, b, rfl, rfl, ints_vals hd ▸ seqT s2 hs, ints_vals hd2 ▸ seqT s2 hs2, ?_⟩
      rw [lexLt_eq]
      exact q _ B1 H (.refl s2) (.bl _)
end
end Wv

set_option Elab.async false
set_option linter.all false
set_option maxRecDepth 100000
set_option maxHeartbeats 1000000
/-! K30s: what is drawn is bounded. -/
namespace K30
open PySem PySem.Spec PyProof.Rows L2 Wb Wv Fm Ta
/-- data of so many storeys and so much weight -/
inductive Sm : Nat → Nat → PyData → Prop
  | none {k W : Nat} : Sm k W .none
  | bool {k W : Nat} (b : Bool) : Sm k W (.bool b)
  | int {k W : Nat} {i : Int} (h : i.natAbs < 2 ^ 100) : Sm k W (.int i)
  | str {k W : Nat} {z : Str} (h : Nmk W z) : Sm k W (.str z)
  | list {k W V : Nat} {ds : List PyData} (h : ∀ x ∈ ds, Sm k W x) (hl : ds.length * (W + 1) ≤ V) : Sm (k + 1) V (.list ds)
  | tuple {k W V : Nat} {ds : List PyData} (h : ∀ x ∈ ds, Sm k W x) (hl : ds.length * (W + 1) ≤ V) : Sm (k + 1) V (.tuple ds)
theorem Sm.mono {k W : Nat} {d : PyData} (h : Sm k W d) : ∀ {k' W' : Nat}, k ≤ k' → W ≤ W' → Sm k' W' d := by
  induction h with
  | none => exact fun _ _ => .none
  | bool b => exact fun _ _ => .bool b
  | int h => exact fun _ _ => .int h
  | str h => exact fun _ hw => .str (h.mono hw)
  | list h hl ih =>
    intro k' W' hk hw
    obtain ⟨j, rfl⟩ : ∃ j, k' = j + 1 := ⟨k' - 1, by omega⟩
    exact .list (fun x hx => ih x hx (by omega) (Nat.le_refl _)) (Nat.le_trans hl hw)
  | tuple h hl ih =>
    intro k' W' hk hw
    obtain ⟨j, rfl⟩ : ∃ j, k' = j + 1 := ⟨k' - 1, by omega⟩
    exact .tuple (fun x hx => ih x hx (by omega) (Nat.le_refl _)) (Nat.le_trans hl hw)
theorem Sm.tb {k W : Nat} {d : PyData} (h : Sm k W d) : Tb k W d := by
  induction h with
  | none => exact tb_none.more (Nat.zero_le _) (Nat.zero_le _)
  | bool b => exact (tb_bool b).more (Nat.zero_le _) (Nat.zero_le _)
  | int h => exact (tb_int (Nat.lt_of_lt_of_le h (Nat.pow_le_pow_right (by decide) (by decide)))).more (Nat.zero_le _) (Nat.zero_le _)
  | str h => exact (tb_str (fun a ha => Nat.lt_of_lt_of_le (h.2 a ha) (by decide)) h.1).more (Nat.zero_le _) (Nat.le_refl _)
  | list h hl ih => exact ((TbAll.of ih).list).more (Nat.le_refl _) hl
  | tuple h hl ih => exact ((TbAll.of ih).tuple).more (Nat.le_refl _) hl
theorem lay_all : ∀ {ds : List PyData}, (∀ x ∈ ds, PyData.canLay0 x = true) → PyData.canLayAll0 ds = true
  | [], _ => rfl
  | x :: ds, h => by simp only [PyData.canLayAll0, h x List.mem_cons_self, lay_all fun y hy => h y (List.mem_cons_of_mem _ hy), Bool.and_self]
theorem strok {W : Nat} {z : Str} (h : Nmk W z) : PyData.strOk z = true := by
  unfold PyData.strOk
  rw [← Array.all_toList, List.all_eq_true]
  intro c hc
  have := h.2 c hc
  simp only [decide_eq_true_eq]
  omega
theorem Sm.lay {k W : Nat} {d : PyData} (h : Sm k W d) : PyData.canLay0 d = true := by
  induction h with
  | none => rfl
  | bool b => rfl
  | int h => rfl
  | str h => simp only [PyData.canLay0, strok h]
  | list h hl ih => simp only [PyData.canLay0, lay_all ih]
  | tuple h hl ih => simp only [PyData.canLay0, lay_all ih]
theorem Sm.shaped {k W : Nat} {d : PyData} (h : Sm k W d) (hk : k ≤ 60 := by decide) : SeqAt.shaped d = true := by
  unfold SeqAt.shaped
  rw [h.lay, Bool.true_and]
  exact decide_eq_true (Nat.le_trans h.tb.deep (by omega))
theorem Sm.shw {k W : Nat} {d : PyData} (h : Sm k W d) (hk : k ≤ 60 := by decide) (hw : W ≤ 8000 := by decide) : Shw d := h.tb.shw hk hw
theorem Sm.strInv {k W : Nat} {z : Str} (h : Sm k W (.str z)) : Nmk W z := by
  cases h with
  | str h => exact h
theorem Sm.tupInv {k V : Nat} {ds : List PyData} (h : Sm k V (.tuple ds)) : ∃ j W, k = j + 1 ∧ (∀ x ∈ ds, Sm j W x) ∧ ds.length * (W + 1) ≤ V := by
  cases h with
  | tuple h hl => exact ⟨_, _, rfl, h, hl⟩
theorem Sm.elem {k V : Nat} {ds : List PyData} {x : PyData} (h : Sm k V (.tuple ds)) (hx : x ∈ ds) : Sm k V x := by
  obtain ⟨j, W, rfl, h, hl⟩ := h.tupInv
  have p1 : 1 * (W + 1) ≤ ds.length * (W + 1) := Nat.mul_le_mul_right _ (List.length_pos_of_mem hx)
  exact (h x hx).mono (by omega) (by omega)
theorem Sm.shorts {k W : Nat} {d : PyData} (h : Sm k W d) (hw : W ≤ 8000 := by decide) : Shorts d := by
  intro ds e x hx y l e2 z ez
  subst e
  subst e2
  subst ez
  have := ((h.elem hx).elem (x := .str z) List.mem_cons_self).strInv.1
  rw [sizeLine_eq]
  omega
theorem sm_tup2 {k W V : Nat} {x y : PyData} (h1 : Sm k W x) (h2 : Sm k W y) (hl : 2 * (W + 1) ≤ V) : Sm (k + 1) V (.tuple [x, y]) := .tuple (fun z hz => by
  rcases List.mem_cons.mp hz with rfl | hz
  · exact h1
  · rw [List.mem_singleton.mp hz]
    exact h2) hl
theorem sm_tup1 {k W V : Nat} {x : PyData} (h1 : Sm k W x) (hl : 1 * (W + 1) ≤ V) : Sm (k + 1) V (.tuple [x]) := .tuple (fun z hz => by
  rw [List.mem_singleton.mp hz]
  exact h1) hl
theorem sm_lst1 {k W V : Nat} {x : PyData} (h1 : Sm k W x) (hl : 1 * (W + 1) ≤ V) : Sm (k + 1) V (.list [x]) := .list (fun z hz => by
  rw [List.mem_singleton.mp hz]
  exact h1) hl
theorem sm_lst2 {k W V : Nat} {x y : PyData} (h1 : Sm k W x) (h2 : Sm k W y) (hl : 2 * (W + 1) ≤ V) : Sm (k + 1) V (.list [x, y]) := .list (fun z hz => by
  rcases List.mem_cons.mp hz with rfl | hz
  · exact h1
  · rw [List.mem_singleton.mp hz]
    exact h2) hl
theorem sm_tup3 {k W V : Nat} {x y u : PyData} (h1 : Sm k W x) (h2 : Sm k W y) (h3 : Sm k W u) (hl : 3 * (W + 1) ≤ V) : Sm (k + 1) V (.tuple [x, y, u]) := .tuple (fun z hz => by
  simp only [List.mem_cons, List.not_mem_nil, or_false] at hz
  rcases hz with rfl | rfl | rfl
  · exact h1
  · exact h2
  · exact h3) hl
theorem eqv_nil : ∀ ds : List PyData, PyData.eqv (.list ds) (.list []) = decide (ds = []) := by
  intro ds
  cases ds <;> simp [PyData.eqv, PyData.eqvAll]
theorem dat_lst {K : PySem.W.Frag} {B : Hp} {ds : List PyData} {p : Addr} {xs : List V} (hs : SqL K B p xs) (h : AllR (ds.map (dat K)) B xs) : dat K (.list ds) B (.ref p) := lstR_dat ⟨p, xs, rfl, hs, h⟩
theorem sm_list {k W : Nat} {ds : List PyData} (h : ∀ x ∈ ds, Sm k W x) (n : Nat) (hn : ds.length ≤ n) (V : Nat) (hV : n * (W + 1) ≤ V) : Sm (k + 1) V (.list ds) := .list h (Nat.le_trans (Nat.mul_le_mul_right _ hn) hV)
theorem sm_tuple {k W : Nat} {ds : List PyData} (h : ∀ x ∈ ds, Sm k W x) (n : Nat) (hn : ds.length ≤ n) (V : Nat) (hV : n * (W + 1) ≤ V) : Sm (k + 1) V (.tuple ds) := .tuple h (Nat.le_trans (Nat.mul_le_mul_right _ hn) hV)
theorem filter_nil {α : Type} {p : α → Bool} {l : List α} : l.filter p = [] ↔ ∀ x ∈ l, p x = false := by
  rw [List.filter_eq_nil_iff]
  exact ⟨fun h x hx => by simpa using h x hx, fun h x hx => by simp [h x hx]⟩
theorem bool_or_not {a b : Bool} : (!a || !b) = !(a && b) := by cases a <;> cases b <;> rfl
theorem Rv.neB {K : PySem.W.Frag} {B : Hp} {i j : Bool} : Rv rNe B (dat K (.bool i)) (dat K (.bool j)) (dat K (.bool (!decide (i = j)))) := fun x y B1 H _ s2 hx hy Q q => by
  have hx := dat_bl hx
  have hy := dat_bl hy
  subst hx hy
  have e : decide (V.bl i = V.bl j) = decide (i = j) := by simp
  refine ⟨rfl, ?_⟩
  rw [e]
  exact q _ B1 H (.refl s2) (Dp.bl _)
theorem kw1 {R : Rel} {B : Hp} {vs : List V} (h : AllR [R] B vs) : AllR [R] B (kwV [0] vs) := by
  obtain ⟨x, r, rfl, hx, h⟩ := h
  have h : r = [] := h
  subst h
  exact ⟨x, [], rfl, hx, rfl⟩
theorem kwr {R S : Rel} {B : Hp} {vs : List V} (h : AllR [S, R] B vs) : AllR [R, S] B (kwV [1, 0] vs) := by
  obtain ⟨x, r, rfl, hx, y, r', rfl, hy, h⟩ := h
  have h : r' = [] := h
  subst h
  exact ⟨y, [x], rfl, hy, x, [], rfl, hx, rfl⟩
theorem shw_bool (b : Bool) : Shw (.bool b) := (tb_bool b).shw
/-- places of a row that are out of bounds -/
def rowBad (qs : Qs) (lo : Int) (ds : List PyData) (i : Nat) : Bool := match ds[i]?, qs[i]? with
  | some d, some q => !isInD d lo ((q.2 : Int) - 1)
  | _, _ => false
theorem row_law {qs : Qs} {lo : Int} {ds : List PyData} (hl : ds.length = qs.length) : decide (((List.range ds.length).filter (rowBad qs lo ds)).map (fun i : Nat => PyData.int (i : Int)) = []) = isRowD qs lo (.tuple ds) := by
  unfold isRowD
  dsimp only
  rw [decide_eq_true hl, Bool.true_and, Bool.eq_iff_iff, decide_eq_true_eq, List.map_eq_nil_iff, filter_nil, List.all_eq_true]
  constructor
  · rintro h ⟨d, q⟩ hp
    obtain ⟨i, hi, e⟩ := List.mem_iff_getElem.mp hp
    rw [List.length_zip] at hi
    rw [List.getElem_zip] at e
    have h1 : ds[i]? = some d := by rw [List.getElem?_eq_getElem (by omega)]; exact congrArg some (Prod.mk.inj e).1
    have h2 : qs[i]? = some q := by rw [List.getElem?_eq_getElem (by omega)]; exact congrArg some (Prod.mk.inj e).2
    have := h i (List.mem_range.mpr (by omega))
    unfold rowBad at this
    rw [h1, h2] at this
    simpa using this
  · intro h i hi
    have hi := List.mem_range.mp hi
    have h1 : ds[i]? = some ds[i] := List.getElem?_eq_getElem hi
    have h2 : qs[i]? = some (qs[i]'(by omega)) := List.getElem?_eq_getElem (by omega)
    unfold rowBad
    rw [h1, h2]
    have := h (ds[i], qs[i]'(by omega)) (List.mem_iff_getElem.mpr ⟨i, by rw [List.length_zip]; omega, by rw [List.getElem_zip]⟩)
    simp only [this, Bool.not_true]
end K30

set_option Elab.async false
set_option linter.all false
set_option maxRecDepth 100000
set_option maxHeartbeats 1000000
/-! K30i: what the law says of any value. -/
namespace K30
open PySem PySem.Spec PyProof.Rows L2 Wb Wv Fm Ta
abbrev sp_lisNum (K : PySem.W.Frag) : Sp := Pf (α := PyData) (fun d => [dat K d]) (fun _ => True) (fun d => dat K (.bool (numD d)))
abbrev sp_lisWord (K : PySem.W.Frag) : Sp := Pf (α := Qs × PyData) (fun a => [dat K (qsD a.1), dat K a.2]) (fun a => a.1.length ≤ 8) (fun a => dat K (.bool (wordB a.1 a.2)))
abbrev sp_lisLetter (K : PySem.W.Frag) : Sp := Pf (α := Qs × PyData) (fun a => [dat K (qsD a.1), dat K a.2]) (fun a => a.1.length ≤ 8) (fun a => dat K (.bool (letterB a.1 a.2)))
abbrev sp_lisRow (K : PySem.W.Frag) : Sp := Pf (α := Qs × PyData) (fun a => [dat K (qsD a.1), dat K a.2]) (fun a => a.1.length ≤ 8 ∧ ∃ k W, k ≤ 50 ∧ Sm k W a.2 ∧ W ≤ 8000) (fun a => dat K (.bool (rowB a.1 a.2)))
abbrev sp_wrong (K : PySem.W.Frag) : Sp := Pf (α := Qs × PyData) (fun a => [dat K (qsD a.1), dat K a.2]) (fun a => a.1.length ≤ 8 ∧ ∃ k W, k ≤ 50 ∧ Sm k W a.2 ∧ W ≤ 8000) (fun a => dat K (rowsFault a.1 a.2))
theorem row_bad {qs : Qs} {lo : Int} {ds : List PyData} (hl : ds.length = qs.length) {i : Nat} (hi : i < ds.length) (bad : rowBad qs lo ds i = true) : isRowD qs lo (.tuple ds) = false := by
  rw [← row_law hl, Bool.eq_false_iff]
  intro h
  rw [decide_eq_true_eq, List.map_eq_nil_iff, filter_nil] at h
  rw [h i (List.mem_range.mpr hi)] at bad
  cases bad
theorem row_good {qs : Qs} {lo : Int} {ds : List PyData} (hl : ds.length = qs.length) (ok : ∀ j, j < ds.length → rowBad qs lo ds j = false) : isRowD qs lo (.tuple ds) = true := by
  rw [← row_law hl, decide_eq_true_eq, List.map_eq_nil_iff, filter_nil]
  exact fun j hj => ok j (List.mem_range.mp hj)
def headB (d : PyData) : Bool := match d with
  | .tuple [a, b, _] => numD a && numD b
  | _ => false
theorem headB_not {d : PyData} (h : isTupD d 3 = false) : headB d = false := by
  unfold headB
  split
  · cases h
  · rfl
def stepW (ds : List PyData) (m : Nat) : Bool := match ds[m]?, ds[m + 1]? with
  | some a, some b => !ltW a b
  | _, _ => false
theorem words_law {qs : Qs} {ds : List PyData} (all : ∀ x ∈ ds, wordB qs x = true) : decide (((List.range ((ds.length : Int) - 1).toNat).filter (stepW ds)).map (fun m : Nat => PyData.int (1 + (m : Int))) = []) = (List.range ds.length).all (okA (wordB qs) ltW ds) := by
  rw [Bool.eq_iff_iff, decide_eq_true_eq, List.map_eq_nil_iff, filter_nil, List.all_eq_true]
  constructor
  · intro h i hi
    have hi := List.mem_range.mp hi
    cases i with
    | zero => rw [okA_zero (List.getElem?_eq_getElem hi), all _ (List.getElem_mem hi)]
    | succ j =>
      have hj : j < ds.length := by omega
      rw [okA_succ (List.getElem?_eq_getElem hj) (List.getElem?_eq_getElem hi), all _ (List.getElem_mem hi), Bool.true_and]
      have := h j (List.mem_range.mpr (by omega))
      unfold stepW at this
      rw [List.getElem?_eq_getElem hj, List.getElem?_eq_getElem hi] at this
      simpa using this
  · intro h i hi
    have hi := List.mem_range.mp hi
    have h1 : i < ds.length := by omega
    have h2 : i + 1 < ds.length := by omega
    have := h (i + 1) (List.mem_range.mpr h2)
    rw [okA_succ (List.getElem?_eq_getElem h1) (List.getElem?_eq_getElem h2), Bool.and_eq_true] at this
    unfold stepW
    rw [List.getElem?_eq_getElem h1, List.getElem?_eq_getElem h2]
    simp only [this.2, Bool.not_true]
section
variable {P : Program} {w : World} {K : PySem.W.Frag} {mg : Str → Option Value} {base : Heap} {C_Form C_Tally C_InvalidForm C_InvalidSize C_InvalidSheets C_BlankError : Addr} {t_MOST_QUESTIONS : Tok}
theorem sc_lisNum : FnScope ["value"] ["value"] (defScope s_lisNum) := ⟨rfl, rfl, rfl, by decide +kernel, rfl, by decide +kernel, by decide +kernel⟩
theorem ok_lisNum (D : Def K mg "_law_is_number" s_lisNum ["value"]) (n_int : mg "int" = none) (n_isinstance : mg "isinstance" = none) (n_bool : mg "bool" = none) : Cal P w K mg base CX0 1 "_law_is_number" s_lisNum ["value"] (sp_lisNum K) := by
  refine D.ok sc_lisNum (fun vs H Q E h => ?_) (fun cdv f A outer s H vs Q E hr h => ?_)
  · exact pf_len h fun _ => rfl
  replace h := pf1 h
  obtain ⟨v, B, d, rfl, hB, hv, _, k⟩ := h
  refine ⟨_, (pss_one (ps_ret (pe_and (pe_callB call_isi (by rfl) n_isinstance (by decide +kernel) (pa_cons (pv 0) (pa_cons (pe_bltn (by rfl) n_int (by decide +kernel) (show RelV (.ty "int") (.type "int") from rfl)) pa_nil))) (pe_and (pe_not (pe_callB call_isi (by rfl) n_isinstance (by decide +kernel) (pa_cons (pv 0) (pa_cons (pe_bltn (by rfl) n_bool (by decide +kernel) (show RelV (.ty "bool") (.type "bool") from rfl)) pa_nil)))) (pe_one (pe_cmpR op_ge (pv 0) pe_int (nomark _))))))), ?_⟩
  have hv : dat K d B v := hv
  have k : ∀ (v : V) (B' H' : Hp), Ext B H B' H' → dat K (.bool (numD d)) B' v → Q v H' := k
  cases hd : d with
  | int i =>
    subst hd
    exact s_ret (De.andV (a := true) (b := decide (0 ≤ i)) (De.isi (.var hv rfl) (by simp)) fun _ => De.andV (a := true) (De.notV (De.isi (.var hv rfl) (by simp))) fun _ => De.op (.var hv rfl) (De.int (n := 0)) Rv.I0b) hB k
  | bool b =>
    subst hd
    exact s_ret (De.andV (a := true) (b := false) (De.isi (.var hv rfl) (by simp)) fun _ => De.andV (a := false) (b := false) (De.notV (De.isi (.var hv rfl) (by simp))) fun z => nomatch z) hB k
  | _ =>
    subst hd
    exact s_ret (De.andV (a := false) (b := false) (De.isi (.var hv rfl) (by simp)) fun z => nomatch z) hB k
theorem De.lnum {σ : L2.St} {B : Hp} {te : TE} {E : XK} {d : PyData} (h : De te σ B (dat K d)) : De (tCall (sp_lisNum K) [] E (tCons te tNil)) σ B (dat K (.bool (numD d))) := De.call (args := fun d => [dat K d]) (res := fun d => dat K (.bool (numD d))) d (.one h) trivial
theorem sc_lisWord : FnScope ["questions", "value", "at"] ["questions", "value"] (defScope s_lisWord) := ⟨rfl, rfl, rfl, by decide +kernel, rfl, by decide +kernel, by decide +kernel⟩
theorem ok_lisWord (D : Def K mg "_law_is_word" s_lisWord ["questions", "value"]) (n_tuple : mg "tuple" = none) (n_isinstance : mg "isinstance" = none) (n_len : mg "len" = none) (n_range : mg "range" = none) (n_int : mg "int" = none) (n_bool : mg "bool" = none) : Cal P w K mg base CX0 1 "_law_is_word" s_lisWord ["questions", "value"] (sp_lisWord K) := by
  refine D.ok sc_lisWord (fun vs H Q E h => ?_) (fun cdv f A outer s H vs Q E hr h => ?_)
  · exact pf_len h fun _ => rfl
  replace h := pf2 h
  obtain ⟨v, v1, B, ⟨qs, d⟩, rfl, hB, hv, hv1, few, k⟩ := h
  refine ⟨_, (pss_cons (ps_if (PW.pt (pw_or (pt_not (pt_val (pe_callB call_isi (by rfl) n_isinstance (by decide +kernel) (pa_cons (pv 1) (pa_cons (pe_bltn (by rfl) n_tuple (by decide +kernel) (show RelV (.ty "tuple") (.type "tuple") from rfl)) pa_nil))))) (pw_or1 (PW.pt (pw_and (pt_cmpR op_ne (pe_callB call_len (by rfl) n_len (by decide +kernel) (pa_cons (pv 1) pa_nil)) pe_int (nomark _)) (pw_and1 (pt_cmpR op_ne (pe_callB call_len (by rfl) n_len (by decide +kernel) (pa_cons (pv 1) pa_nil)) (pe_callB call_len (by rfl) n_len (by decide +kernel) (pa_cons (pv 0) pa_nil)) (nomark _)))))))) (pss_one (ps_ret pe_bl)) pss_nil)
    (pss_cons (ps_for PassesOwn.never rfl (pi_range1 rfl n_range (pa_cons (pe_callB call_len (by rfl) n_len (by decide +kernel) (pa_cons (pv 1) pa_nil)) pa_nil)) (pg_name (i := 2) sc_lisWord.nd rfl (Or.inl rfl)) (pss_one (ps_if (PW.pt (pw_or (pt_not (pt_val (pe_callB call_isi (by rfl) n_isinstance (by decide +kernel) (pa_cons (pe_ix ix_tup (pv 1) (pv 2) (fun _ _ => rfl)) (pa_cons (pe_bltn (by rfl) n_int (by decide +kernel) (show RelV (.ty "int") (.type "int") from rfl)) pa_nil))))) (pw_or (pt_val (pe_callB call_isi (by rfl) n_isinstance (by decide +kernel) (pa_cons (pe_ix ix_tup (pv 1) (pv 2) (fun _ _ => rfl)) (pa_cons (pe_bltn (by rfl) n_bool (by decide +kernel) (show RelV (.ty "bool") (.type "bool") from rfl)) pa_nil)))) (pw_or (pt_cmpR op_lt (pe_ix ix_tup (pv 1) (pv 2) (fun _ _ => rfl)) (pe_op op_sub pe_int pe_int) (nomark _)) (pw_or1 (pt_cmpR op_ge (pe_ix ix_tup (pv 1) (pv 2) (fun _ _ => rfl)) (pe_ix ix_tup (pe_ix ix_tup (pv 0) (pv 2) (fun _ _ => rfl)) pe_int (fun _ _ => rfl)) (nomark _))))))) (pss_one (ps_ret pe_bl)) pss_nil)))
    (pss_one (ps_ret pe_bl)))), ?_⟩
  have hv : dat K (qsD qs) B v := hv
  have hv1 : dat K d B v1 := hv1
  have few : qs.length ≤ 8 := few
  have k : ∀ (v : V) (B' H' : Hp), Ext B H B' H' → dat K (.bool (wordB qs d)) B' v → Q v H' := k
  have lq : ∀ {σ : L2.St}, σ[0]? = some (some v) → De (tCB (Wv.rLen K) (tCons (tVar 0) tNil)) σ B (dat K (.int (qs.length : Int))) := fun h => De.eq (De.lenT (ds := qs.map encQ) (.var hv h)) (by rw [List.length_map])
  cases ht : isD "tuple" d with
  | false =>
    have e : wordB qs d = false := by cases d <;> first | rfl | cases ht
    rw [e] at k
    refine s_ifS (b := true) (Dt.or (a := true) (b := true) (Dt.eq (Dt.not (Dt.tB (De.isi (.var hv1 rfl) (by simp)))) (by rw [ht]; rfl)) fun z => nomatch z) hB (fun _ B1 H1 e1 => ?_) fun z => nomatch z
    exact s_ret (De.bl (K := K)) e1.bh fun v B' H' e h => k v B' H' (e1.trans e) h
  | true =>
    obtain ⟨ds, rfl⟩ : ∃ ds, d = .tuple ds := by cases d <;> first | exact ⟨_, rfl⟩ | cases ht
    have wb : wordB qs (.tuple ds) = (decide ((ds.length : Int) = 0) || isRowD qs (-1) (.tuple ds)) := rfl
    refine s_ifS (b := !decide ((ds.length : Int) = 0) && !decide ((ds.length : Int) = (qs.length : Int))) (Dt.or (a := false) (Dt.eq (Dt.not (Dt.tB (De.isi (.var hv1 rfl) (by simp)))) rfl) fun _ => Dt.and (Dt.test (De.op (r := rNe) (De.lenT (.var hv1 rfl)) (De.int (n := 0)) Rv.neI)) fun _ => Dt.test (De.op (r := rNe) (De.lenT (.var hv1 rfl)) (lq rfl) Rv.neI)) hB (fun t B1 H1 e1 => ?_) fun f B1 H1 e1 => ?_
    · rw [Bool.and_eq_true, Bool.not_eq_true', Bool.not_eq_true', decide_eq_false_iff_not, decide_eq_false_iff_not] at t
      have ne : ¬ ds.length = qs.length := fun h => t.2 (by omega)
      have e : isRowD qs (-1) (.tuple ds) = false := by
        unfold isRowD
        simp [ne]
      rw [wb, e, decide_eq_false t.1] at k
      exact s_ret (De.bl (K := K)) e1.bh fun v B' H' e h => k v B' H' (e1.trans e) h
    · have cs : ds.length = 0 ∨ ds.length = qs.length := by
        by_cases h0 : ds.length = 0
        · exact .inl h0
        · have : ¬ ((ds.length : Int) = 0) := by omega
          rw [decide_eq_false this] at f
          have : (ds.length : Int) = (qs.length : Int) := by simpa using f
          exact .inr (by omega)
      have hw := Mo.mo e1.bb hv
      have hw1 := Mo.mo e1.bb hv1
      dsimp only [tNext]
      refine s_forS (Di.rng (K := K) (n := ds.length) (De.lenT (.var hw1 rfl)) (by omega)) e1.bh (fun i σ B => ∃ (v2 : Option V), σ = [some v, some v1, v2] ∧ ∀ j, j < i → rowBad qs (-1) ds j = false) (fun B' s => ⟨none, rfl, fun j h => absurd h (Nat.not_lt_zero j)⟩) ?_ ?_
      · rintro B2 H2 e2 i R x σ' Bc Bn Hn hR ⟨v2, rfl, ok⟩ s e hx
        rw [List.getElem?_map] at hR
        obtain ⟨i', hi', rfl⟩ := Option.map_eq_some_iff.mp hR
        obtain ⟨il, rfl⟩ : i < ds.length ∧ i' = i := by
          rw [List.getElem?_eq_some_iff] at hi'
          obtain ⟨h1, h2⟩ := hi'
          rw [List.length_range] at h1
          rw [List.getElem_range] at h2
          exact ⟨h1, h2.symm⟩
        have hl : ds.length = qs.length := by omega
        have hx := dat_int hx
        subst hx
        have hw := Mo.mo (e2.bb.trans e.bb) hw
        have hw1 := Mo.mo (e2.bb.trans e.bb) hw1
        have h1 : ds[i']? = some ds[i'] := List.getElem?_eq_getElem il
        have h2 : qs[i']? = some (qs[i']'(by omega)) := List.getElem?_eq_getElem (by omega)
        have h3 : (qs.map encQ)[i']? = some (encQ (qs[i']'(by omega))) := by rw [List.getElem?_map, h2]; rfl
        have rb : rowBad qs (-1) ds i' = !isInD ds[i'] (-1) (((qs[i']'(by omega)).2 : Int) - 1) := by
          unfold rowBad
          rw [h1, h2]
        have el : De (tOp (rIxT K) (tVar 1) (tVar 2)) [some v, some v1, some (.int (i' : Int))] Bn (dat K ds[i']) := De.op (r := rIxT K) (.var hw1 rfl) (.var (Dp.int (i' : Int)) rfl) (Rv.ixTD (d := ds[i']) (atI_nat h1))
        have mn : De (tOp (rIxT K) (tOp (rIxT K) (tVar 0) (tVar 2)) (tC (.int 1))) [some v, some v1, some (.int (i' : Int))] Bn (dat K (.int ((qs[i']'(by omega)).2 : Int))) := De.op (r := rIxT K) (De.op (r := rIxT K) (.var hw rfl) (.var (Dp.int (i' : Int)) rfl) (Rv.ixTD (ds := qs.map encQ) (atI_nat h3))) .int (Rv.ixTD rfl)
        generalize ds[i'] = y at el rb
        refine s_if (b := rowBad qs (-1) ds i') ?_ e.bh (fun t B5 H5 e5 => ?_) fun f B5 H5 e5 => ⟨B5, e.trans e5, _, rfl, fun j hj => ?_⟩
        · rw [rb]
          cases hy : y with
          | int n =>
            rw [hy] at el
            refine Dt.eq (Dt.or (a := false) (Dt.eq (Dt.not (Dt.tB (De.isi el (by simp)))) rfl) fun _ => Dt.or (a := false) (Dt.eq (Dt.tB (De.isi el (by simp))) rfl) fun _ => Dt.or (Dt.test (K := K) (De.op el (De.op (De.int (n := 0)) (De.int (n := 1)) Rv.I0) Rv.I0b)) fun _ => Dt.test (K := K) (De.op el mn Rv.I0b)) ?_
            show (decide (n < 0 - 1) || decide (((qs[i']'(by omega)).2 : Int) ≤ n)) = !(decide (-1 ≤ n) && decide (n ≤ ((qs[i']'(by omega)).2 : Int) - 1))
            rw [Bool.eq_iff_iff]
            simp
            omega
          | bool b =>
            rw [hy] at el
            exact Dt.or (a := false) (b := true) (Dt.eq (Dt.not (Dt.tB (De.isi el (by simp)))) rfl) fun _ => Dt.or (a := true) (b := true) (Dt.eq (Dt.tB (De.isi el (by simp))) rfl) fun z => nomatch z
          | _ =>
            rw [hy] at el
            exact Dt.or (a := true) (b := true) (Dt.eq (Dt.not (Dt.tB (De.isi el (by simp)))) rfl) fun z => nomatch z
        · have n0 : ¬ ((ds.length : Int) = 0) := by omega
          rw [wb, row_bad hl il t, decide_eq_false n0] at k
          exact s_ret (De.bl (K := K)) e5.bh fun v B' H' e6 h => k v B' H' (((e1.trans e2).trans (e.trans e5)).trans e6) h
        · by_cases ji : j = i'
          · subst ji
            exact f
          · exact ok j (by omega)
      · rintro σ' B' H' e3 ⟨v2, rfl, ok⟩
        rw [List.length_map, List.length_range] at ok
        have e : wordB qs (.tuple ds) = true := by
          rw [wb]
          rcases cs with h | h
          · rw [decide_eq_true (by omega), Bool.true_or]
          · rw [row_good h ok, Bool.or_true]
        rw [e] at k
        exact s_ret (De.bl (K := K)) e3.bh fun v B' H' e h => k v B' H' ((e1.trans e3).trans e) h
theorem De.lword {σ : L2.St} {B : Hp} {te tf : TE} {E : XK} {qs : Qs} {d : PyData} (h : De te σ B (dat K (qsD qs))) (h2 : De tf σ B (dat K d)) (few : qs.length ≤ 8) : De (tCall (sp_lisWord K) [] E (tCons te (tCons tf tNil))) σ B (dat K (.bool (wordB qs d))) := De.call (args := fun a : Qs × PyData => [dat K (qsD a.1), dat K a.2]) (res := fun a => dat K (.bool (wordB a.1 a.2))) (qs, d) (.cons h (.cons h2 .nil)) few
theorem three_test {σ : L2.St} {B : Hp} {v : V} {d : PyData} (hv : dat K d B v) (h1 : σ[1]? = some (some v)) : Dt (tOr (tNot (tB (tCB (rIsi K) (tCons (tVar 1) (tCons (tC (.ty "tuple")) tNil))))) (tOr (tTest (tOp rNe (tCB (Wv.rLen K) (tCons (tVar 1) tNil)) (tC (.int 3)))) (tOr (tNot (tB (tCall (sp_lisNum K) [] E0 (tCons (tOp (rIxT K) (tVar 1) (tC (.int 0))) tNil)))) (tNot (tB (tCall (sp_lisNum K) [] E0 (tCons (tOp (rIxT K) (tVar 1) (tC (.int 1))) tNil))))))) σ B (!headB d) := by
  cases ht : isTupD d 3 with
  | true =>
    obtain ⟨a, b, c, rfl⟩ := isTup3 ht
    exact Dt.or (a := false) (Dt.eq (Dt.not (Dt.tB (De.isi (.var hv h1) (by simp)))) rfl) fun _ => Dt.or (a := false) (Dt.eq (Dt.test (K := K) (De.op (r := rNe) (De.lenT (.var hv h1)) (De.int (n := 3)) Rv.neI)) rfl) fun _ => Dt.eq (Dt.or (Dt.not (Dt.tB (De.lnum (De.op (r := rIxT K) (.var hv h1) (De.int (n := 0)) (Rv.ixTD (d := a) rfl))))) fun _ => Dt.not (Dt.tB (De.lnum (De.op (r := rIxT K) (.var hv h1) (De.int (n := 1)) (Rv.ixTD (d := b) rfl))))) bool_or_not
  | false =>
    rw [headB_not ht]
    cases hd : isD "tuple" d with
    | false => exact Dt.or (a := true) (b := true) (Dt.eq (Dt.not (Dt.tB (De.isi (.var hv h1) (by simp)))) (by rw [hd]; rfl)) fun z => nomatch z
    | true =>
      obtain ⟨ds, rfl⟩ : ∃ ds, d = .tuple ds := by cases d <;> first | exact ⟨_, rfl⟩ | cases hd
      have ne : ¬ ((ds.length : Int) = 3) := of_decide_eq_false ht
      exact Dt.or (a := false) (b := true) (Dt.eq (Dt.not (Dt.tB (De.isi (.var hv h1) (by simp)))) rfl) fun _ => Dt.or (a := true) (b := true) (Dt.eq (Dt.test (K := K) (De.op (r := rNe) (De.lenT (.var hv h1)) (De.int (n := 3)) Rv.neI)) (by rw [decide_eq_false ne]; rfl)) fun z => nomatch z
theorem sc_lisLetter : FnScope ["questions", "value"] ["questions", "value"] (defScope s_lisLetter) := ⟨rfl, rfl, rfl, by decide +kernel, rfl, by decide +kernel, by decide +kernel⟩
theorem ok_lisLetter (D : Def K mg "_law_is_letter" s_lisLetter ["questions", "value"]) (n_tuple : mg "tuple" = none) (n_isinstance : mg "isinstance" = none) (n_len : mg "len" = none) (C_lisNum : Cal P w K mg base CX0 1 "_law_is_number" s_lisNum ["value"] (sp_lisNum K)) (C_lisWord : Cal P w K mg base CX0 1 "_law_is_word" s_lisWord ["questions", "value"] (sp_lisWord K)) : Cal P w K mg base CX0 2 "_law_is_letter" s_lisLetter ["questions", "value"] (sp_lisLetter K) := by
  refine D.ok sc_lisLetter (fun vs H Q E h => ?_) (fun cdv f A outer s H vs Q E hr h => ?_)
  · exact pf_len h fun _ => rfl
  replace h := pf2 h
  obtain ⟨v, v1, B, ⟨qs, d⟩, rfl, hB, hv, hv1, few, k⟩ := h
  refine ⟨_, (pss_cons (ps_if (PW.pt (pw_or (pt_not (pt_val (pe_callB call_isi (by rfl) n_isinstance (by decide +kernel) (pa_cons (pv 1) (pa_cons (pe_bltn (by rfl) n_tuple (by decide +kernel) (show RelV (.ty "tuple") (.type "tuple") from rfl)) pa_nil))))) (pw_or (pt_cmpR op_ne (pe_callB call_len (by rfl) n_len (by decide +kernel) (pa_cons (pv 1) pa_nil)) pe_int (nomark _)) (pw_or (pt_not (pt_val (pe_cal C_lisNum (hr.mono (by decide)) (by rfl) pass0 (pa_cons (pe_ix ix_tup (pv 1) pe_int (fun _ _ => rfl)) pa_nil)))) (pw_or1 (pt_not (pt_val (pe_cal C_lisNum (hr.mono (by decide)) (by rfl) pass0 (pa_cons (pe_ix ix_tup (pv 1) pe_int (fun _ _ => rfl)) pa_nil))))))))) (pss_one (ps_ret pe_bl)) pss_nil)
    (pss_one (ps_ret (pe_cal C_lisWord (hr.mono (by decide)) (by rfl) pass0 (pa_cons (pv 0) (pa_cons (pe_ix ix_tup (pv 1) pe_int (fun _ _ => rfl)) pa_nil)))))), ?_⟩
  have hv : dat K (qsD qs) B v := hv
  have hv1 : dat K d B v1 := hv1
  have few : qs.length ≤ 8 := few
  have k : ∀ (v : V) (B' H' : Hp), Ext B H B' H' → dat K (.bool (letterB qs d)) B' v → Q v H' := k
  cases ht : isTupD d 3 with
  | false =>
    refine s_ifS (b := true) (Dt.eq (three_test hv1 rfl) (by rw [headB_not ht]; rfl)) hB (fun _ B1 H1 e1 => ?_) fun z => nomatch z
    rw [letterB_not ht] at k
    exact s_ret (De.bl (K := K)) e1.bh fun v B' H' e h => k v B' H' (e1.trans e) h
  | true =>
    obtain ⟨a, b, c, rfl⟩ := isTup3 ht
    have lb : letterB qs (.tuple [a, b, c]) = (numD a && (numD b && wordB qs c)) := rfl
    refine s_ifS (b := !(numD a && numD b)) (three_test hv1 rfl) hB (fun t B1 H1 e1 => ?_) fun f B1 H1 e1 => ?_
    · have e : letterB qs (.tuple [a, b, c]) = false := by
        rw [lb]
        cases ha : numD a <;> cases hb : numD b <;> rw [ha, hb] at t <;> first | rfl | cases t
      rw [e] at k
      exact s_ret (De.bl (K := K)) e1.bh fun v B' H' e h => k v B' H' (e1.trans e) h
    · have e : letterB qs (.tuple [a, b, c]) = wordB qs c := by
        rw [lb]
        cases ha : numD a <;> cases hb : numD b <;> rw [ha, hb] at f <;> first | rfl | cases f
      rw [e] at k
      exact s_ret (De.lword (.var (Mo.mo e1.bb hv) rfl) (De.op (r := rIxT K) (.var (Mo.mo e1.bb hv1) rfl) (De.int (n := 2)) (Rv.ixTD (d := c) rfl)) few) e1.bh fun v B' H' e h => k v B' H' (e1.trans e) h
end
end K30

set_option Elab.async false
set_option linter.all false
set_option maxRecDepth 100000
set_option maxHeartbeats 1000000
/-! K30k: what the law says of rows. -/
namespace K30
open PySem PySem.Spec PyProof.Rows L2 Wb Wv Fm Ta
theorem eqv_nilT : ∀ ds : List PyData, PyData.eqv (.tuple ds) (.tuple []) = decide (ds = []) := by
  intro ds
  cases ds <;> simp [PyData.eqv, PyData.eqvAll]
theorem wordsB_bad {qs : Qs} {ds : List PyData} {x : PyData} (hx : x ∈ ds) (bad : wordB qs x = false) : wordsB qs (.tuple ds) = false := by
  show (!decide (ds.length = 0) && (List.range ds.length).all (okA (wordB qs) ltW ds)) = false
  obtain ⟨i, hi, rfl⟩ := List.mem_iff_getElem.mp hx
  have : (List.range ds.length).all (okA (wordB qs) ltW ds) = false := by
    rw [List.all_eq_false]
    exact ⟨i, List.mem_range.mpr hi, by rw [okA_bad (List.getElem?_eq_getElem hi) bad]; decide⟩
  rw [this, Bool.and_false]
section
variable {P : Program} {w : World} {K : PySem.W.Frag} {mg : Str → Option Value} {base : Heap} {C_Form C_Tally C_InvalidForm C_InvalidSize C_InvalidSheets C_BlankError : Addr} {t_MOST_QUESTIONS : Tok}
theorem sc_lisRow : FnScope ["questions", "value", "words", "word", "at"] ["questions", "value"] (defScope s_lisRow) := ⟨rfl, rfl, rfl, by decide +kernel, rfl, by decide +kernel, by decide +kernel⟩
theorem ok_lisRow (D : Def K mg "_law_is_row" s_lisRow ["questions", "value"]) (n_tuple : mg "tuple" = none) (n_isinstance : mg "isinstance" = none) (n_len : mg "len" = none) (C_lisNum : Cal P w K mg base CX0 1 "_law_is_number" s_lisNum ["value"] (sp_lisNum K)) (C_lisWord : Cal P w K mg base CX0 1 "_law_is_word" s_lisWord ["questions", "value"] (sp_lisWord K)) (n_range : mg "range" = none) : Cal P w K mg base CX0 2 "_law_is_row" s_lisRow ["questions", "value"] (sp_lisRow K) := by
  refine D.ok sc_lisRow (fun vs H Q E h => ?_) (fun cdv f A outer s H vs Q E hr h => ?_)
  · exact pf_len h fun _ => rfl
  replace h := pf2 h
  obtain ⟨v, v1, B, ⟨qs, d⟩, rfl, hB, hv, hv1, ⟨few, kk, WW, k50, sm, w8⟩, k⟩ := h
  refine ⟨_, (pss_cons (ps_if (PW.pt (pw_or (pt_not (pt_val (pe_callB call_isi (by rfl) n_isinstance (by decide +kernel) (pa_cons (pv 1) (pa_cons (pe_bltn (by rfl) n_tuple (by decide +kernel) (show RelV (.ty "tuple") (.type "tuple") from rfl)) pa_nil))))) (pw_or (pt_cmpR op_ne (pe_callB call_len (by rfl) n_len (by decide +kernel) (pa_cons (pv 1) pa_nil)) pe_int (nomark _)) (pw_or (pt_not (pt_val (pe_cal C_lisNum (hr.mono (by decide)) (by rfl) pass0 (pa_cons (pe_ix ix_tup (pv 1) pe_int (fun _ _ => rfl)) pa_nil)))) (pw_or1 (pt_not (pt_val (pe_cal C_lisNum (hr.mono (by decide)) (by rfl) pass0 (pa_cons (pe_ix ix_tup (pv 1) pe_int (fun _ _ => rfl)) pa_nil))))))))) (pss_one (ps_ret pe_bl)) pss_nil)
    (pss_cons (ps_set (i := 2) sc_lisRow.nd rfl (Or.inr rfl) (pe_ix ix_tup (pv 1) pe_int (fun _ _ => rfl)))
    (pss_cons (ps_if (PW.pt (pw_or (pt_not (pt_val (pe_callB call_isi (by rfl) n_isinstance (by decide +kernel) (pa_cons (pv 2) (pa_cons (pe_bltn (by rfl) n_tuple (by decide +kernel) (show RelV (.ty "tuple") (.type "tuple") from rfl)) pa_nil))))) (pw_or (pt_cmpR (op_eqD hr.units) (pv 2) (pe_tup pa_nil) (nomark _)) (pw_or1 (pt_cmpR (op_neD hr.units) (pe_lc (own := [("word", 3)]) (g := gName 3) rfl sc_lisRow.nd (pi_tup (pv 2)) (blkOk_by (own := [("word", 3)]) (N := ["questions", "value", "words", "word", "at"]) (sc := defScope s_lisRow) (by decide +kernel)) (fun _ _ _ _ _ => (pg_name (i := 3) sc_lisRow.nd rfl (Or.inl rfl))) (fun _ _ _ _ _ => pts_one (pt_not (pt_val (pe_cal C_lisWord (hr.mono (by decide)) (by rfl) pass0 (pa_cons (pv 0) (pa_cons (pv 3) pa_nil)))))) (fun _ _ _ _ _ => (pv 3))) (pe_lst pa_nil) (nomark _)))))) (pss_one (ps_ret pe_bl)) pss_nil)
    (pss_one (ps_ret (pe_cmpR (op_eqD hr.units) (pe_lc (own := [("at", 4)]) (g := gName 4) rfl sc_lisRow.nd (pi_range2 (by rfl) n_range (pa_cons pe_int (pa_cons (pe_callB call_len (by rfl) n_len (by decide +kernel) (pa_cons (pv 2) pa_nil)) pa_nil))) (blkOk_by (own := [("at", 4)]) (N := ["questions", "value", "words", "word", "at"]) (sc := defScope s_lisRow) (by decide +kernel)) (fun _ _ _ _ _ => (pg_name (i := 4) sc_lisRow.nd rfl (Or.inl rfl))) (fun _ _ _ _ _ => pts_one (pt_not (pt_cmpR (r := rLtT K) (op_ltT hr.units0) (pe_ix (r := rIxT K) ix_tup (pv 2) (pe_op op_sub (pv 4) pe_int) (fun _ _ => rfl)) (pe_ix (r := rIxT K) ix_tup (pv 2) (pv 4) (fun _ _ => rfl)) (nomark _)))) (fun _ _ _ _ _ => (pv 4))) (pe_lst pa_nil) (nomark _))))))), ?_⟩
  have hv : dat K (qsD qs) B v := hv
  have hv1 : dat K d B v1 := hv1
  have few : qs.length ≤ 8 := few
  have sm : Sm kk WW d := sm
  have k : ∀ (v : V) (B' H' : Hp), Ext B H B' H' → dat K (.bool (rowB qs d)) B' v → Q v H' := k
  cases ht : isTupD d 3 with
  | false =>
    refine s_ifS (b := true) (Dt.eq (three_test hv1 rfl) (by rw [headB_not ht]; rfl)) hB (fun _ B1 H1 e1 => ?_) fun z => nomatch z
    rw [rowB_not ht] at k
    exact s_ret (De.bl (K := K)) e1.bh fun v B' H' e h => k v B' H' (e1.trans e) h
  | true =>
    obtain ⟨a, b, c, rfl⟩ := isTup3 ht
    have rb : rowB qs (.tuple [a, b, c]) = (numD a && (numD b && wordsB qs c)) := rfl
    refine s_ifS (b := !(numD a && numD b)) (three_test hv1 rfl) hB (fun t B1 H1 e1 => ?_) fun f B1 H1 e1 => ?_
    · have e : rowB qs (.tuple [a, b, c]) = false := by
        rw [rb]
        cases ha : numD a <;> cases hb : numD b <;> rw [ha, hb] at t <;> first | rfl | cases t
      rw [e] at k
      exact s_ret (De.bl (K := K)) e1.bh fun v B' H' e h => k v B' H' (e1.trans e) h
    have e : rowB qs (.tuple [a, b, c]) = wordsB qs c := by
      rw [rb]
      cases ha : numD a <;> cases hb : numD b <;> rw [ha, hb] at f <;> first | rfl | cases f
    rw [e] at k
    have sc : Sm kk WW c := sm.elem (by simp)
    dsimp only [tNext]
    refine s_set (De.op (r := rIxT K) (.var (Mo.mo e1.bb hv1) rfl) (De.int (n := 2)) (Rv.ixTD (d := c) rfl)) e1.bh fun v2 B2 H2 e2 h2 => ?_
    have h2 : dat K c B2 v2 := h2
    have eA := e1.trans e2
    have hq := Mo.mo eA.bb hv
    cases hc : isD "tuple" c with
    | false =>
      have e : wordsB qs c = false := by cases c <;> first | rfl | cases hc
      rw [e] at k
      refine s_ifS (b := true) (Dt.or (a := true) (b := true) (Dt.eq (Dt.not (Dt.tB (De.isi (.var h2 rfl) (by simp)))) (by rw [hc]; rfl)) fun z => nomatch z) eA.bh (fun _ B1 H1 e1 => ?_) fun z => nomatch z
      exact s_ret (De.bl (K := K)) e1.bh fun v B' H' e h => k v B' H' ((eA.trans e1).trans e) h
    | true =>
      obtain ⟨ds, rfl⟩ : ∃ ds, c = .tuple ds := by cases c <;> first | exact ⟨_, rfl⟩ | cases hc
      have wb : wordsB qs (.tuple ds) = (!decide (ds.length = 0) && (List.range ds.length).all (okA (wordB qs) ltW ds)) := rfl
      have few2 : ds.length ≤ 8000 := by
        obtain ⟨j, W, _, _, hl⟩ := sc.tupInv
        have : ds.length * 1 ≤ ds.length * (W + 1) := Nat.mul_le_mul_left _ (by omega)
        omega
      have fsh : SeqAt.shaped (.list ((ds.filter fun x => !wordB qs x).map fun x => x)) = true := (Sm.list (k := kk) (W := WW) (fun x hx => by
        rw [List.map_id'] at hx
        exact sc.elem (List.mem_filter.mp hx).1) (Nat.le_refl _)).shaped (by omega)
      refine s_ifS (b := decide (ds = []) || !decide ((ds.filter fun x => !wordB qs x) = [])) (Dt.or (a := false) (Dt.eq (Dt.not (Dt.tB (De.isi (.var h2 rfl) (by simp)))) rfl) fun _ => Dt.or (Dt.eq (Dt.test (De.op (r := rEqD K) (.var h2 rfl) (De.tupD (K := K) .nil (by show 0 ≤ sizeLine; decide)) (Rv.eqD (sc.shaped (by omega)) rfl))) (eqv_nilT ds)) fun _ => Dt.eq (Dt.test (De.op (r := rNeD K) (De.lcD (K := K) (as := ds) (r := fun x => dat K x) (Di.tupD (.var h2 rfl)) (fun x => !wordB qs x) (fun x => x) (by rw [sizeLine_eq]; omega) fun x u Bn Hn hx sn sh hu => ⟨[some v, some v1, some v2, some u, none], fun Q q => q, rfl, Dt.not (Dt.tB (De.lword (.var (Mo.mo sn hq) rfl) (.var hu rfl) few)), fun _ => .var hu rfl⟩) (De.lstD (K := K) .nil (by show 0 ≤ sizeLine; decide)) (Rv.neD fsh rfl))) (by rw [eqv_nil, List.map_id'])) eA.bh (fun t B3 H3 e3 => ?_) fun f B3 H3 e3 => ?_
      · have e : wordsB qs (.tuple ds) = false := by
          by_cases h0 : ds = []
          · subst h0
            rfl
          · rw [decide_eq_false h0, Bool.false_or] at t
            have ne : ¬ (ds.filter fun x => !wordB qs x) = [] := by simpa using t
            cases hf : ds.filter fun x => !wordB qs x with
            | nil => exact absurd hf ne
            | cons x r =>
              have m : x ∈ ds.filter fun x => !wordB qs x := by rw [hf]; exact List.mem_cons_self
              obtain ⟨m1, m2⟩ := List.mem_filter.mp m
              exact wordsB_bad m1 (by simpa using m2)
        rw [e] at k
        exact s_ret (De.bl (K := K)) e3.bh fun v B' H' e h => k v B' H' ((eA.trans e3).trans e) h
      · obtain ⟨f1, f2⟩ : decide (ds = []) = false ∧ (!decide ((ds.filter fun x => !wordB qs x) = [])) = false := by
          cases h1 : decide (ds = []) <;> cases h2 : (!decide ((ds.filter fun x => !wordB qs x) = [])) <;> rw [h1, h2] at f <;> first | exact ⟨rfl, rfl⟩ | cases f
        have emp : (ds.filter fun x => !wordB qs x) = [] := by simpa using f2
        rw [filter_nil] at emp
        have all : ∀ x ∈ ds, wordB qs x = true := fun x hx => by simpa using emp x hx
        have n0 : ¬ ds.length = 0 := fun h => by
          rw [List.eq_nil_of_length_eq_zero h] at f1
          cases f1
        rw [wb, decide_eq_false n0, Bool.not_false, Bool.true_and] at k
        have h2 := Mo.mo e3.bb h2
        have ish : SeqAt.shaped (.list (((List.range ((ds.length : Int) - 1).toNat).filter (stepW ds)).map (fun m : Nat => PyData.int (1 + (m : Int))))) = true := (Sm.list (k := 0) (W := 1) (fun x hx => by
          obtain ⟨c, hc, rfl⟩ := List.mem_map.mp hx
          have := List.mem_range.mp (List.mem_filter.mp hc).1
          exact .int (by omega)) (Nat.le_refl _)).shaped
        refine s_ret (De.eq (De.op (r := rEqD K) (De.lcD (K := K) (as := List.range ((ds.length : Int) - 1).toNat) (r := fun m : Nat => dat K (.int (1 + (m : Int)))) (Di.rng2 (.cons .int (.cons (De.lenT (.var h2 rfl)) .nil)) (by omega)) (stepW ds) (fun m => .int (1 + (m : Int))) (by rw [List.length_range, sizeLine_eq]; omega) fun m x Bn Hn hm sn sh hx => ⟨[some v, some v1, some v2, none, some x], fun Q q => q, rfl, ?_, fun _ => .var hx rfl⟩) (De.lstD (K := K) .nil (by show 0 ≤ sizeLine; decide)) (Rv.eqD ish rfl)) (by rw [eqv_nil, words_law all])) e3.bh fun v B' H' e h => k v B' H' ((eA.trans e3).trans e) h
        have hm := List.mem_range.mp hm
        have l1 : m < ds.length := by omega
        have l3 : m + 1 < ds.length := by omega
        have i1 : ds[m]? = some ds[m] := List.getElem?_eq_getElem l1
        have i3 : ds[m + 1]? = some ds[m + 1] := List.getElem?_eq_getElem l3
        have hl := Mo.mo sn h2
        refine Dt.eq (Dt.not (Dt.test (De.op (r := rLtT K) (De.eq (De.op (r := rIxT K) (.var hl rfl) (De.eq (De.op (.var hx rfl) .int Rv.I0) (e := .int (m : Int)) (by rw [show 1 + (m : Int) - 1 = (m : Int) by omega])) (Rv.ixTD (d := ds[m]) (atI_nat i1))) (wordB_form (all _ (List.getElem_mem l1)))) (De.eq (De.op (r := rIxT K) (.var hl rfl) (De.eq (.var hx rfl) (e := .int ((m + 1 : Nat) : Int)) (by rw [show 1 + (m : Int) = ((m + 1 : Nat) : Int) by omega])) (Rv.ixTD (d := ds[m + 1]) (atI_nat i3))) (wordB_form (all _ (List.getElem_mem l3)))) Rv.ltT))) ?_
        unfold stepW
        rw [i1, i3]
        rfl
theorem sc_wrong : FnScope ["questions", "rows", "at"] ["questions", "rows"] (defScope s_wrong) := ⟨rfl, rfl, rfl, by decide +kernel, rfl, by decide +kernel, by decide +kernel⟩
theorem ok_wrong (D : Def K mg "_law_wrong" s_wrong ["questions", "rows"]) (n_tuple : mg "tuple" = none) (n_isinstance : mg "isinstance" = none) (n_range : mg "range" = none) (n_len : mg "len" = none) (C_lisRow : Cal P w K mg base CX0 2 "_law_is_row" s_lisRow ["questions", "value"] (sp_lisRow K)) : Cal P w K mg base CX0 3 "_law_wrong" s_wrong ["questions", "rows"] (sp_wrong K) := by
  refine D.ok sc_wrong (fun vs H Q E h => ?_) (fun cdv f A outer s H vs Q E hr h => ?_)
  · exact pf_len h fun _ => rfl
  replace h := pf2 h
  obtain ⟨v, v1, B, ⟨qs, d⟩, rfl, hB, hv, hv1, ⟨few, kk, WW, k50, sm, w8⟩, k⟩ := h
  refine ⟨_, (pss_cons (ps_if (pt_not (pt_val (pe_callB call_isi (by rfl) n_isinstance (by decide +kernel) (pa_cons (pv 1) (pa_cons (pe_bltn (by rfl) n_tuple (by decide +kernel) (show RelV (.ty "tuple") (.type "tuple") from rfl)) pa_nil))))) (pss_one (ps_ret (pe_op op_sub pe_int pe_int))) pss_nil)
    (pss_cons (ps_for PassesOwn.never rfl (pi_range1 rfl n_range (pa_cons (pe_callB call_len (by rfl) n_len (by decide +kernel) (pa_cons (pv 1) pa_nil)) pa_nil)) (pg_name (i := 2) sc_wrong.nd rfl (Or.inl rfl)) (pss_one (ps_if (PW.pt (pw_or (pt_not (pt_val (pe_cal C_lisRow (hr.mono (by decide)) (by rfl) pass0 (pa_cons (pv 0) (pa_cons (pe_ix ix_tup (pv 1) (pv 2) (fun _ _ => rfl)) pa_nil))))) (pw_or1 (PW.pt (pw_and (pt_cmpR op_gt (pv 2) pe_int (nomark _)) (pw_and1 (pt_cmpR op_le (pe_ix ix_tup (pe_ix ix_tup (pv 1) (pv 2) (fun _ _ => rfl)) pe_int (fun _ _ => rfl)) (pe_ix ix_tup (pe_ix ix_tup (pv 1) (pe_op op_sub (pv 2) pe_int) (fun _ _ => rfl)) pe_int (fun _ _ => rfl)) (nomark _)))))))) (pss_one (ps_ret (pv 2))) pss_nil)))
    (pss_one (ps_ret pe_non)))), ?_⟩
  have hv : dat K (qsD qs) B v := hv
  have hv1 : dat K d B v1 := hv1
  have few : qs.length ≤ 8 := few
  have sm : Sm kk WW d := sm
  have k : ∀ (v : V) (B' H' : Hp), Ext B H B' H' → dat K (rowsFault qs d) B' v → Q v H' := k
  cases ht : isD "tuple" d with
  | false =>
    have e : rowsFault qs d = .int (-1) := by cases d <;> first | rfl | cases ht
    rw [e] at k
    refine s_ifS (b := true) (Dt.eq (Dt.not (Dt.tB (De.isi (.var hv1 rfl) (by simp)))) (by rw [ht]; rfl)) hB (fun _ B1 H1 e1 => ?_) fun z => nomatch z
    exact s_ret (De.op (De.int (n := 0)) (De.int (K := K) (n := 1)) Rv.I0) e1.bh fun v B' H' e h => k v B' H' (e1.trans e) h
  | true =>
    obtain ⟨ds, rfl⟩ : ∃ ds, d = .tuple ds := by cases d <;> first | exact ⟨_, rfl⟩ | cases ht
    have few2 : ds.length ≤ 8000 := by
      obtain ⟨j, W, _, _, hl⟩ := sm.tupInv
      have : ds.length * 1 ≤ ds.length * (W + 1) := Nat.mul_le_mul_left _ (by omega)
      omega
    have fe : ∀ o, faultA (rowB qs) ltR ds = o → rowsFault qs (.tuple ds) = (match o with | some i => .int (i : Int) | none => .none) := fun o ho => by
      show (match faultA (rowB qs) ltR ds with | some i => PyData.int (i : Int) | none => .none) = _
      rw [ho]
    refine s_skip (Dt.eq (Dt.not (Dt.tB (De.isi (.var hv1 rfl) (by simp)))) rfl) hB fun B1 H1 e1 => ?_
    have hw := Mo.mo e1.bb hv
    have hw1 := Mo.mo e1.bb hv1
    refine s_forS (Di.rng (K := K) (n := ds.length) (De.lenT (.var hw1 rfl)) (by omega)) e1.bh (fun i σ B => ∃ (v2 : Option V), σ = [some v, some v1, v2] ∧ ∀ j, j < i → okA (rowB qs) ltR ds j = true) (fun B' s => ⟨none, rfl, fun j h => absurd h (Nat.not_lt_zero j)⟩) ?_ ?_
    · rintro B2 H2 e2 i R x σ' Bc Bn Hn hR ⟨v2, rfl, ok⟩ s e hx
      rw [List.getElem?_map] at hR
      obtain ⟨i', hi', rfl⟩ := Option.map_eq_some_iff.mp hR
      obtain ⟨il, rfl⟩ : i < ds.length ∧ i' = i := by
        rw [List.getElem?_eq_some_iff] at hi'
        obtain ⟨h1, h2⟩ := hi'
        rw [List.length_range] at h1
        rw [List.getElem_range] at h2
        exact ⟨h1, h2.symm⟩
      have hx := dat_int hx
      subst hx
      have hw := Mo.mo (e2.bb.trans e.bb) hw
      have hw1 := Mo.mo (e2.bb.trans e.bb) hw1
      have hq : ds[i']? = some ds[i'] := List.getElem?_eq_getElem il
      have el : De (tOp (rIxT K) (tVar 1) (tVar 2)) [some v, some v1, some (.int (i' : Int))] Bn (dat K ds[i']) := De.op (r := rIxT K) (.var hw1 rfl) (.var (Dp.int (i' : Int)) rfl) (Rv.ixTD (d := ds[i']) (atI_nat hq))
      have isR : De (tCall (sp_lisRow K) [] E0 (tCons (tVar 0) (tCons (tOp (rIxT K) (tVar 1) (tVar 2)) tNil))) [some v, some v1, some (.int (i' : Int))] Bn (dat K (.bool (rowB qs ds[i']))) := De.call (args := fun a : Qs × PyData => [dat K (qsD a.1), dat K a.2]) (res := fun a => dat K (.bool (rowB a.1 a.2))) (qs, ds[i']) (.cons (.var hw rfl) (.cons el .nil)) ⟨few, kk, WW, k50, sm.elem (List.getElem_mem il), w8⟩
      refine s_if (b := !okA (rowB qs) ltR ds i') ?_ e.bh (fun t B5 H5 e5 => ?_) fun f B5 H5 e5 => ⟨B5, e.trans e5, _, rfl, fun j hj => ?_⟩
      · cases wq : rowB qs ds[i'] with
        | false =>
          rw [okA_bad hq wq]
          exact Dt.or (a := true) (b := true) (Dt.eq (Dt.not (Dt.tB isR)) (by rw [wq]; rfl)) fun z => nomatch z
        | true =>
          refine Dt.or (a := false) (Dt.eq (Dt.not (Dt.tB isR)) (by rw [wq]; rfl)) fun _ => ?_
          obtain ⟨n, b2, c2, eq⟩ := rowB_form wq
          cases i' with
          | zero =>
            rw [okA_zero hq, wq]
            exact Dt.and (a := false) (b := false) (Dt.eq (Dt.test (K := K) (De.op (.var (Dp.int ((0 : Nat) : Int)) rfl) (De.int (n := 0)) Rv.I0b)) rfl) fun z => nomatch z
          | succ j =>
            have hp : ds[j]? = some ds[j] := List.getElem?_eq_getElem (by omega)
            obtain ⟨n', b', c', ep⟩ := rowB_form (okA_ok hp (ok j (Nat.lt_succ_self j)))
            have oe : okA (rowB qs) ltR ds (j + 1) = ltR ds[j] ds[j + 1] := by rw [okA_succ hp hq, wq, Bool.true_and]
            rw [ep] at hp oe
            rw [eq] at el oe
            have e2 : (!okA (rowB qs) ltR ds (j + 1)) = decide (n ≤ n') := by
              rw [oe]
              show (!decide (n' < n)) = _
              rw [Bool.eq_iff_iff, Bool.not_eq_true', decide_eq_false_iff_not, decide_eq_true_eq]
              omega
            refine Dt.eq (b := decide (n ≤ n')) ?_ e2.symm
            exact Dt.and (a := true) (Dt.eq (Dt.test (K := K) (De.op (.var (Dp.int ((j + 1 : Nat) : Int)) rfl) (De.int (n := 0)) Rv.I0b)) (decide_eq_true (by omega))) fun _ => Dt.test (De.op (De.op (r := rIxT K) el (De.int (n := 0)) (Rv.ixTD (d := .int n) rfl)) (De.op (r := rIxT K) (De.op (r := rIxT K) (.var hw1 rfl) (De.eq (De.op (.var (Dp.int ((j + 1 : Nat) : Int)) rfl) .int Rv.I0) (e := .int (j : Int)) (by rw [show ((j + 1 : Nat) : Int) - 1 = (j : Int) by omega])) (Rv.ixTD (d := .tuple [.int n', b', c']) (atI_nat hp))) (De.int (n := 0)) (Rv.ixTD (d := .int n') rfl)) Rv.I0b)
      · have bad : okA (rowB qs) ltR ds i' = false := by simpa using t
        rw [fe _ (faultA_at il bad ok)] at k
        exact s_ret (.var (Dp.int (i' : Int)) rfl) e5.bh fun v B' H' e6 h => k v B' H' (((e1.trans e2).trans (e.trans e5)).trans e6) h
      · by_cases ji : j = i'
        · subst ji
          simpa using f
        · exact ok j (by omega)
    · rintro σ' B' H' e3 ⟨v2, rfl, ok⟩
      rw [List.length_map, List.length_range] at ok
      rw [fe _ (faultA_none ok)] at k
      exact s_ret (De.non (K := K)) e3.bh fun v B' H' e h => k v B' H' ((e1.trans e3).trans e) h
end
end K30

set_option Elab.async false
set_option linter.all false
set_option maxRecDepth 100000
set_option maxHeartbeats 1000000
/-! We4: t[::-1] of a tuple. -/
namespace Wv
open PySem PySem.Spec PySem.Calls PyProof.Rows L2 Wb
open HT in
theorem adj_rev (n : Nat) : Builtin.Slice.sliceAdjust none none (-1) (n : Int) = ((n : Int) - 1, -1) := by
  unfold Builtin.Slice.sliceAdjust
  rfl
theorem plc_rev (n : Nat) : Builtin.Slice.slicePlaces ((n : Int) - 1) (-1) (-1) = n := by
  unfold Builtin.Slice.slicePlaces
  have h : ¬ ((-1 : Int) > 0) := by omega
  rw [if_neg h]
  by_cases z : (n : Int) - 1 > -1
  · rw [if_pos z, show (-(-1 : Int)) = 1 by decide, Int.ediv_one]
    omega
  · rw [if_neg z]
    omega
theorem fm_congr {α β : Type} {f g : α → Option β} : ∀ {l : List α}, (∀ x ∈ l, f x = g x) → l.filterMap f = l.filterMap g
  | [], _ => rfl
  | x :: l, h => by
    rw [List.filterMap_cons, List.filterMap_cons, h x List.mem_cons_self, fm_congr fun y hy => h y (List.mem_cons_of_mem _ hy)]
theorem pick_rev (xs : Array Value) : ((List.range xs.size).filterMap fun (m : Nat) => xs[(((xs.size : Int) - 1) + (m : Int) * (-1)).toNat]?).toArray = xs.toList.reverse.toArray := by
  congr 1
  have e : (List.range xs.size).filterMap (fun (m : Nat) => xs[(((xs.size : Int) - 1) + (m : Int) * (-1)).toNat]?) = (List.range xs.size).filterMap (fun m => xs.toList.reverse[m]?) := by
    refine fm_congr fun m hm => ?_
    have hm := List.mem_range.mp hm
    have i : (((xs.size : Int) - 1) + (m : Int) * (-1)).toNat = xs.size - 1 - m := by omega
    rw [i, List.getElem?_reverse (by rw [Array.length_toList]; exact hm), Array.length_toList, Array.getElem?_toList]
  rw [e]
  have l : xs.size = xs.toList.reverse.length := by rw [List.length_reverse, Array.length_toList]
  rw [l]
  generalize xs.toList.reverse = ys
  apply List.ext_getElem?
  intro i
  have : (List.range ys.length).filterMap (fun m => ys[m]?) = ys := by
    induction ys with
    | nil => rfl
    | cons y ys ih =>
      rw [List.length_cons, List.range_succ_eq_map, List.filterMap_cons]
      simp only [List.getElem?_cons_zero, List.filterMap_map]
      congr 1
  rw [this]
section
variable {prog : Program} {w : World} {A : Around} {E : Value → Shared → Prop} {s : Shared}
theorem app_rev {sl : Addr} {vl vu vs : Value} {n : Nat} {Q : Int × Int × Nat → Shared → Prop} (hs : s.heap.IsSliceOf sl vl vu vs) (pl : IsPart vl none) (pu : IsPart vu none) (ps : IsPart vs (some (-1))) (h : Q ((n : Int) - 1, -1, n) s) :
    wpAny (model prog w) A (Builtin.Slice.sliceApplied (.ref sl) (pure (n : Int))) Q E s := by
  obtain ⟨os, hos, _, hds⟩ := id hs
  unfold Builtin.Slice.sliceApplied
  unfold Builtin.Slice.sliceFields
  refine wpAny_bind (wpAny_bind (wpAny_field hos hds (x := vl) rfl ?_))
  refine wpAny_bind (wpAny_field hos hds (x := vu) rfl ?_)
  refine wpAny_bind (wpAny_field hos hds (x := vs) rfl ?_)
  refine wpAny_pure (wpAny_bind (HT.slicePart_ ps ?_))
  show wpAny _ _ (if ((-1 : Int) == 0) = true then _ else _) _ _ s
  rw [if_neg (by decide)]
  refine wpAny_bind (HT.slicePart_ pl ?_)
  refine wpAny_bind (HT.slicePart_ pu (wpAny_bind (wpAny_pure ?_)))
  show wpAny _ _ (match Builtin.Slice.sliceAdjust none none (-1) (n : Int) with | (lo, hi) => pure (lo, (-1 : Int), Builtin.Slice.slicePlaces lo hi (-1))) _ _ s
  rw [adj_rev n]
  show wpAny _ _ (pure ((n : Int) - 1, (-1 : Int), Builtin.Slice.slicePlaces ((n : Int) - 1) (-1) (-1))) _ _ s
  rw [plc_rev]
  exact wpAny_pure h
theorem item_rev {t sl : Addr} {items : Array Value} {vl vu vs : Value} {Q : Value → Shared → Prop} (ht : IsTup s.heap t items) (hs : s.heap.IsSliceOf sl vl vu vs) (pl : IsPart vl none) (pu : IsPart vu none) (ps : IsPart vs (some (-1)))
    (h : Q (.ref s.heap.objs.size) { s with heap := s.heap.push { cls := .type "tuple", data := .seq items.toList.reverse.toArray } }) (hsz : items.size ≤ sizeLine) : wpAny (model prog w) A (getItem (.ref t) (.ref sl)) Q E s := by
  have fit : sizeOk (.seq items.toList.reverse.toArray) := by
    show items.toList.reverse.toArray.size ≤ sizeLine
    rw [List.size_toArray, List.length_reverse, Array.length_toList]
    exact hsz
  obtain ⟨os, hos, hcs, _⟩ := id hs
  have hTs : s.TypeIs (.ref sl) "slice" := ⟨os, hos, hcs⟩
  unfold getItem
  (try with_reducible refine wpAny_holding ?_)
  (first | refine wpAny_bind (wpAny_pure ?_) | skip)
  refine (wpAny_bind (wpAny_sequenceKey ht.typeIs (by decide) ?_))
  refine wpAny_bind (wpAny_callSpecial?_slot (name := Str.ofString "__getitem__") ht.typeIs PyProof.Rows.slot_tuple_getitem (wpAny_call_entry PyProof.Rows.slot_tuple_getitem ht.typeIs entry_tuple_getitem ?_ (args_tuple_getitem _ _)))
  show wpAny _ _ (Builtin.Tuple.tupleItemsOf (Value.ref t) >>= _) _ _ _
  refine wpAny_bind (tupleItemsOf_ ht (wpAny_bind (wpAny_typeOf hTs ?_)))
  rw [if_pos (by decide)]
  refine wpAny_bind (app_rev hs pl pu ps ?_)
  have no : ¬ ((((items.size : Int) - 1) == 0 && (-1 : Int) == 1 && items.size == items.size) = true) := by simp
  show wpAny _ _ (if ((((items.size : Int) - 1) == 0 && (-1 : Int) == 1 && items.size == items.size) = true) then _ else _) _ _ s
  rw [if_neg no, pick_rev]
  first
    | exact (wpAny_bind (m := Builtin.Tuple.tupleExact _) (wpAny_newObj_type (wpAny_pure ⟨_, rfl, wpAny_pure h⟩) fit))
    | exact (wpAny_bind (m := Builtin.Tuple.tupleExact _) (wpAny_newObj_type (wpAny_bind (wpAny_pure (wpAny_pure ⟨_, rfl, wpAny_pure h⟩))) fit))
end
def tRevT (K : PySem.W.Frag) (te : TE) : TE := fun σ H Q => te σ H fun x H1 => ∃ a xs, x = .ref a ∧ SqT K H1 a xs ∧ ∀ p, H1 p = none → Q (.ref p) (upd H1 p (.tup xs.reverse))
section
variable {X : Cx}
theorem pe_revT {e : Expr} {te : TE} {k : Nat} {p1 p2 p3 pos : Pos} (he : PE X e te) : PE X (.Subscript e (.Slice none none (some (.UnaryOp .USub (.Constant (.int 1) k p1) p2)) p3) pos) (tRevT X.K te) := by
  refine ⟨fun pins s σ H Q I h => ?_⟩
  refine Subscript_ (thn (he.run pins s σ H _ I h) fun v s1 ⟨x, H1, I1, r1, a, xs, ex, hx, q⟩ => ?_)
  subst ex
  cases r1
  have st : PO X (some (.UnaryOp .USub (.Constant (.int 1) k p1) p2)) (tPart (tUn (rU fun i => .int (-i)) (tC (.int 1)))) := (po_some (pe_un un_neg pe_int))
  refine wpAny_Slice (thn (po_none.run pins s1 σ H1 (fun o H2 => o = none ∧ H2 = H1) I1 ⟨rfl, rfl⟩) fun vl s2 z2 => ?_)
  obtain ⟨l, H2, I2, pl, el, e2⟩ := z2
  subst el e2
  refine thn (po_none.run pins s2 σ H2 (fun o H3 => o = none ∧ H3 = H2) I2 ⟨rfl, rfl⟩) fun vu s3 z3 => ?_
  obtain ⟨u, H3, I3, pu, eu, e3⟩ := z3
  subst eu e3
  refine thn (st.run pins s3 σ H3 (fun o H4 => o = some (-1) ∧ H4 = H3) I3 ⟨1, rfl, -1, rfl, rfl, rfl⟩) fun vs s4 z4 => ?_
  obtain ⟨o, H4, I4, ps, eo, e4⟩ := z4
  subst eo e4
  have I5 : Inv X pins σ H4 { s4 with heap := s4.heap.push { cls := .type "slice", data := .fields #[vl, vu, vs] } } := (I4.kept (t' := s4.toks) fun b ob q => Heap.get?_push_of_some _ q)
  obtain ⟨its, r, ht, hz⟩ := I5.tuple hx
  have hl := r.length
  show (wpAny (model X.prog X.w) X.A (subscriptTail e (.Slice none none (some (.UnaryOp .USub (.Constant (.int 1) k p1) p2)) p3) (.ref a) (.ref s4.heap.objs.size)) (EP X pins σ Q) X.xe { s4 with heap := s4.heap.push { cls := .type "slice", data := .fields #[vl, vu, vs] } })
  refine tail_any (ops := [.ref a, .ref s4.heap.objs.size]) ht.typeIs (PyProof.Rows.slot_tuple_getitem.lookup) ?_ (by with_unfolding_all rfl)
  refine item_rev ht (Heap.IsSliceOf.new _ vl vu vs) pl pu ps ?_ (by rw [List.size_toArray]; omega)
  refine ⟨.ref _, _, I5.laid (t' := s4.toks) (o := .tup xs.reverse) (fun b ob q => Heap.get?_push_of_some _ q) (Nat.le_refl _) ?_, rfl, (q _ (I5.hok.fresh (Nat.le_refl _)))⟩
  exact ⟨by rw [List.length_reverse]; exact hz, _, r.reverse, IsTup.new _ _⟩
end
section
variable {K : PySem.W.Frag} {σ : L2.St} {B : Hp} {te : TE}
theorem De.revT {ds : List PyData} (h : De te σ B (dat K (.tuple ds))) : De (tRevT K te) σ B (dat K (.tuple ds.reverse)) := fun B1 H s1 s2 Q q => h B1 H s1 s2 _ fun v B2 H2 e hv => by
  have hv' := hv
  obtain ⟨a, xs, rfl, hs, hR⟩ := dat_tupR hv'
  refine ⟨a, xs, rfl, seqT e.bh hs, fun p hp => q _ (upd B2 p (.tup xs.reverse)) _ (e.trans (Ext.new e.bh hp)) ?_⟩
  have rv : ∀ {ds : List PyData} {xs : List V}, DpAll K B2 xs ds → DpAll K B2 xs.reverse ds.reverse := fun h => by
    induction h using DpAll.rec (motive_1 := fun _ _ _ => True) with
    | non => trivial
    | bl => trivial
    | int => trivial
    | str => trivial
    | lst => trivial
    | tup => trivial
    | nil => exact .nil
    | cons h t _ ih =>
      rw [List.reverse_cons, List.reverse_cons]
      exact dpAll_app ih (.cons h .nil)
  exact .tup (SqT.of upd_same) (dpMonoAll (new_same (e.bh.free hp)) _ _ (rv (allR_dp hR)))
end
end Wv

set_option Elab.async false
set_option linter.all false
set_option maxRecDepth 100000
set_option maxHeartbeats 1000000
/-! K30l: what is told of a tally, of a letter; things drawn. -/
namespace K30
open PySem PySem.Spec PyProof.Rows L2 Wb Wv Fm Ta
abbrev sp_told (K : PySem.W.Frag) (CF CT : Addr) : Sp := Pf (α := TV) (fun t => [tvR K CF CT t]) (fun t => tvShort t) (fun t => dat K (tvFault t))
def heardD (qs : Qs) (d : PyData) : PyData := if letterB qs d then .bool true else .str (Str.ofString "letter")
abbrev sp_lheard (K : PySem.W.Frag) (C : Addr) : Sp := Pf (α := Qs × PyData) (fun a => [formD K C (qsD a.1), dat K a.2]) (fun _ => True) (fun a => dat K (heardD a.1 a.2))
def ThP (x : PyData) : Prop := Sm 3 10 x ∧ ∀ es, x = .tuple es → es.length ≤ 3
abbrev sp_thing (K : PySem.W.Frag) : Sp := DPf (α := Unit) (fun _ => []) (fun _ => True) (fun _ => datP K ThP)
section
variable {P : Program} {w : World} {K : PySem.W.Frag} {mg : Str → Option Value} {base : Heap} {C_Form C_Tally C_InvalidForm C_InvalidSize C_InvalidSheets C_BlankError : Addr} {t_MOST_QUESTIONS : Tok}
theorem sc_told : FnScope ["value", "answer", "e"] ["value"] (defScope s_told) := ⟨rfl, rfl, rfl, by decide +kernel, rfl, by decide +kernel, by decide +kernel⟩
theorem ok_told (D : Def K mg "_law_told" s_told ["value"]) (C_needTally : Cal P w K mg base (L2.CX P w) 8 "need_tally" s_needTally ["value"] (sp_needTally K C_Form C_Tally C_InvalidSheets)) (Z_BlankError : ErrB K mg "BlankError" C_BlankError topB) (n_isinstance : mg "isinstance" = none) (Z_InvalidSize : Err P w K mg base "InvalidSize" "word" C_InvalidSize (topE C_BlankError)) (Z_InvalidForm : Err P w K mg base "InvalidForm" "at" C_InvalidForm (topE C_BlankError)) (Z_InvalidSheets : Err P w K mg base "InvalidSheets" "at" C_InvalidSheets (topE C_BlankError)) (ne1 : C_InvalidSheets ≠ C_InvalidSize) (ne2 : C_InvalidSheets ≠ C_InvalidForm) (ne3 : C_InvalidSize ≠ C_BlankError) (ne4 : C_InvalidForm ≠ C_BlankError) : Cal P w K mg base CX0 9 "_law_told" s_told ["value"] (sp_told K C_Form C_Tally) := by
  refine D.ok sc_told (fun vs H Q E h => ?_) (fun cdv f A outer s H vs Q E hr h => ?_)
  · exact pf_len h fun _ => rfl
  replace h := pf1 h
  obtain ⟨v, B, t, rfl, hB, hv, sh, k⟩ := h
  refine ⟨_, (pss_cons (ps_try_as (i := 2) rfl rfl sc_told.nd rfl rfl ⟨rfl, by decide, .inl Z_InvalidSheets.g⟩ takes0 (fun W pn xe tk _ => (pss_one (ps_set (i := 1) sc_told.nd rfl (Or.inl rfl) (pe_calS C_needTally (hr.mono (by decide)) (by rfl) (fun σ => passAt tk σ) (pa_cons (pv 0) pa_nil))))) (fun a oe cls d pn hz hf => (pss_one (ps_ret (pe_ifExp (PW.pt (pw_and (pt_val (pe_callB (call_isX hz hf) (by rfl) n_isinstance (by decide +kernel) (pa_cons (pv 2) (pa_cons (pe_glob (by rfl) Z_BlankError.g (show RelV (.ref C_BlankError) (.ref C_BlankError) from rfl)) pa_nil)))) (pw_and (pt_not (pt_val (pe_callB (call_isX hz hf) (by rfl) n_isinstance (by decide +kernel) (pa_cons (pv 2) (pa_cons (pe_glob (by rfl) Z_InvalidSize.g (show RelV (.ref C_InvalidSize) (.ref C_InvalidSize) from rfl)) pa_nil))))) (pw_and1 (pt_not (pt_val (pe_callB (call_isX hz hf) (by rfl) n_isinstance (by decide +kernel) (pa_cons (pv 2) (pa_cons (pe_glob (by rfl) Z_InvalidForm.g (show RelV (.ref C_InvalidForm) (.ref C_InvalidForm) from rfl)) pa_nil))))))))) (pe_errF hz hf (pv 2)) (pe_lst (pa_cons pe_str pa_nil)))))))
    (pss_one (ps_ret (pe_ifExp (pt_cmpR op_notN (pv 1) pe_non (nomark _)) pe_str pe_non)))), ?_⟩
  have hv : tvR K C_Form C_Tally t B v := hv
  have k : ∀ (v : V) (B' H' : Hp), Ext B H B' H' → dat K (tvFault t) B' v → Q v H' := k
  have isB : PySem.W.kitOne K (.ref C_InvalidSheets) (.ref C_BlankError) = some true := by
    rw [Z_InvalidSheets.row.one_ref Z_BlankError.row]
    simp [topE]
  have isS : PySem.W.kitOne K (.ref C_InvalidSheets) (.ref C_InvalidSize) = some false := by
    rw [Z_InvalidSheets.row.one_ref Z_InvalidSize.row]
    simp [topE, ne1, ne1.symm, ne3, ne3.symm]
  have isF : PySem.W.kitOne K (.ref C_InvalidSheets) (.ref C_InvalidForm) = some false := by
    rw [Z_InvalidSheets.row.one_ref Z_InvalidForm.row]
    simp [topE, ne2, ne2.symm, ne4, ne4.symm]
  refine ⟨_, rfl, v, B, t, rfl, hB, hv, sh, fun hn u B' H' e hu => ?_, fun i hi B' H' dx e hdx => ?_⟩
  · rw [hn] at k
    have hu : u = .non := by cases hu; rfl
    subst hu
    exact s_ret (De.ite (b := false) (Dt.test (De.op (.var (Dp.non (K := K)) rfl) .non (Rv.notNone (d := .none)))) (fun z => nomatch z) fun _ => .non) e.bh fun v B2 H2 e2 h => k v B2 H2 (e.trans e2) h
  · rw [hi] at k
    have atd : upd H' dx (.xd [("at", .int i)]) dx = some (.xd [("at", .int i)]) := upd_same
    refine ⟨true, Z_InvalidSheets.exm_self rfl, fun _ ae hae => ?_, fun q => nomatch q⟩
    refine ⟨_, rfl, C_InvalidSheets, _, _, true, rfl, rfl, (fun dd e => by cases e; exact ⟨_, atd⟩), Z_InvalidSheets.T, .own _, isB, _, rfl, ?_⟩
    refine ite2 (fun _ => ?_) (fun z => absurd rfl z)
    refine ⟨_, rfl, C_InvalidSheets, _, _, false, rfl, rfl, (fun dd e => by cases e; exact ⟨_, atd⟩), Z_InvalidSheets.T, .own _, isS, _, rfl, ?_⟩
    refine ite2 (fun _ => ?_) (fun z => absurd rfl z)
    refine ⟨_, rfl, C_InvalidSheets, _, _, false, rfl, rfl, (fun dd e => by cases e; exact ⟨_, atd⟩), Z_InvalidSheets.T, .own _, isF, _, rfl, ?_⟩
    refine ite2 (fun _ => ?_) (fun z => absurd rfl z)
    have e2 := e.trans (.own (o := .xd [("at", .int i)]) e.bh hdx)
    exact ⟨_, rfl, rfl, C_InvalidSheets, dx, _, rfl, rfl, Z_InvalidSheets.T, Z_InvalidSheets.no, atd, k _ _ _ e2 (Dp.int _)⟩
theorem sc_lheard : FnScope ["form", "value", "answer", "e"] ["form", "value"] (defScope s_lheard) := ⟨rfl, rfl, rfl, by decide +kernel, rfl, by decide +kernel, by decide +kernel⟩
theorem ok_lheard (D : Def K mg "_law_heard" s_lheard ["form", "value"]) (C_needLetter : Cal P w K mg base (L2.CX P w) 5 "need_letter" s_needLetter ["form", "value"] (sp_needLetter K C_Form C_InvalidSize)) (Z_BlankError : ErrB K mg "BlankError" C_BlankError topB) (n_isinstance : mg "isinstance" = none) (Z_InvalidSheets : Err P w K mg base "InvalidSheets" "at" C_InvalidSheets (topE C_BlankError)) (Z_InvalidSize : Err P w K mg base "InvalidSize" "word" C_InvalidSize (topE C_BlankError)) (ne1 : C_InvalidSheets ≠ C_InvalidSize) (ne5 : C_InvalidSheets ≠ C_BlankError) : Cal P w K mg base CX0 6 "_law_heard" s_lheard ["form", "value"] (sp_lheard K C_Form) := by
  refine D.ok sc_lheard (fun vs H Q E h => ?_) (fun cdv f A outer s H vs Q E hr h => ?_)
  · exact pf_len h fun _ => rfl
  replace h := pf2 h
  obtain ⟨v, v1, B, ⟨qs, d⟩, rfl, hB, hv, hv1, _, k⟩ := h
  refine ⟨_, (pss_cons (ps_try_as (i := 3) rfl rfl sc_lheard.nd rfl rfl ⟨rfl, by decide, .inl Z_InvalidSize.g⟩ takes0 (fun W pn xe tk _ => (pss_one (ps_set (i := 2) sc_lheard.nd rfl (Or.inl rfl) (pe_calS C_needLetter (hr.mono (by decide)) (by rfl) (fun σ => passAt tk σ) (pa_cons (pv 0) (pa_cons (pv 1) pa_nil)))))) (fun a oe cls d pn hz hf => (pss_one (ps_ret (pe_ifExp (PW.pt (pw_and (pt_val (pe_callB (call_isX hz hf) (by rfl) n_isinstance (by decide +kernel) (pa_cons (pv 3) (pa_cons (pe_glob (by rfl) Z_BlankError.g (show RelV (.ref C_BlankError) (.ref C_BlankError) from rfl)) pa_nil)))) (pw_and1 (pt_not (pt_val (pe_callB (call_isX hz hf) (by rfl) n_isinstance (by decide +kernel) (pa_cons (pv 3) (pa_cons (pe_glob (by rfl) Z_InvalidSheets.g (show RelV (.ref C_InvalidSheets) (.ref C_InvalidSheets) from rfl)) pa_nil)))))))) (pe_errF hz hf (pv 3)) pe_str)))))
    (pss_one (ps_ret (pe_cmpR op_isN (pv 2) pe_non (nomark _))))), ?_⟩
  have hv : formD K C_Form (qsD qs) B v := hv
  have hv1 : dat K d B v1 := hv1
  have k : ∀ (v : V) (B' H' : Hp), Ext B H B' H' → dat K (heardD qs d) B' v → Q v H' := k
  have isB : PySem.W.kitOne K (.ref C_InvalidSize) (.ref C_BlankError) = some true := by
    rw [Z_InvalidSize.row.one_ref Z_BlankError.row]
    simp [topE]
  have isS : PySem.W.kitOne K (.ref C_InvalidSize) (.ref C_InvalidSheets) = some false := by
    rw [Z_InvalidSize.row.one_ref Z_InvalidSheets.row]
    simp [topE, ne1, ne1.symm, ne5, ne5.symm]
  refine ⟨_, rfl, _, rfl, v, v1, B, qs, d, rfl, hB, hv, hv1, fun hn u B' H' e hu => ?_, fun hi B' H' dx e hdx => ?_⟩
  · have hd : heardD qs d = .bool true := if_pos hn
    rw [hd] at k
    have hu : u = .non := by cases hu; rfl
    subst hu
    exact s_ret (De.op (.var (Dp.non (K := K)) rfl) .non (Rv.isNone (d := .none))) e.bh fun v B2 H2 e2 h => k v B2 H2 (e.trans e2) h
  · have hd : heardD qs d = .str (Str.ofString "letter") := if_neg (by rw [hi]; decide)
    rw [hd] at k
    have atd : upd H' dx (.xd [("word", .str (Str.ofString "letter"))]) dx = some (.xd [("word", .str (Str.ofString "letter"))]) := upd_same
    refine ⟨true, Z_InvalidSize.exm_self rfl, fun _ ae hae => ?_, fun q => nomatch q⟩
    refine ⟨_, rfl, C_InvalidSize, _, _, true, rfl, rfl, (fun dd e => by cases e; exact ⟨_, atd⟩), Z_InvalidSize.T, .own _, isB, _, rfl, ?_⟩
    refine ite2 (fun _ => ?_) (fun z => absurd rfl z)
    refine ⟨_, rfl, C_InvalidSize, _, _, false, rfl, rfl, (fun dd e => by cases e; exact ⟨_, atd⟩), Z_InvalidSize.T, .own _, isS, _, rfl, ?_⟩
    refine ite2 (fun _ => ?_) (fun z => absurd rfl z)
    have e2 := e.trans (.own (o := .xd [("word", .str (Str.ofString "letter"))]) e.bh hdx)
    exact ⟨_, rfl, rfl, C_InvalidSize, dx, _, rfl, rfl, Z_InvalidSize.T, Z_InvalidSize.no, atd, k _ _ _ e2 (Dp.str _)⟩
theorem sc_thing : FnScope ["deal"] ["deal"] (defScope s_thing) := ⟨rfl, rfl, rfl, by decide +kernel, rfl, by decide +kernel, by decide +kernel⟩
theorem ok_thing (D : Def K mg "_law_thing" s_thing ["deal"]) (C_of : Cal P w K mg base CX0 2 "_law_of" s_of ["deal", "some"] (spOf K)) : Cal P w K mg base CX0 3 "_law_thing" s_thing ["deal"] (sp_thing K) := by
  refine D.ok sc_thing (fun vs H Q E h => ?_) (fun cdv f A outer s H vs Q E hr h => ?_)
  · exact dpf_len h fun _ => rfl
  replace h := dpf0 h
  obtain ⟨d, c, B, _, rfl, L, _, k⟩ := h
  refine ⟨_, (pss_one (ps_ret (pe_cal C_of (hr.mono (by decide)) (by rfl) pass0 (pa_cons (pv 0) (pa_cons (pe_lst (pa_cons pe_non (pa_cons pe_bl (pa_cons pe_int (pa_cons (pe_op op_sub pe_int pe_int) (pa_cons (pe_op op_pow pe_int pe_int) (pa_cons pe_str (pa_cons pe_str (pa_cons (pe_tup pa_nil) (pa_cons (pe_lst pa_nil) (pa_cons (pe_tup (pa_cons pe_int pa_nil)) (pa_cons (pe_tup (pa_cons (pe_op op_sub pe_int pe_int) pa_nil)) (pa_cons (pe_tup (pa_cons (pe_tup pa_nil) pa_nil)) (pa_cons (pe_tup (pa_cons pe_int (pa_cons pe_int (pa_cons (pe_tup pa_nil) pa_nil)))) (pa_cons (pe_tup (pa_cons pe_int (pa_cons pe_int (pa_cons (pe_tup (pa_cons (pe_tup pa_nil) pa_nil)) pa_nil)))) pa_nil))))))))))))))) pa_nil))))), ?_⟩
  refine s_retW L (Dw.cv (Dw.ofL (K := K) (ds := [.none, .bool true, .int 0, .int (0 - 1), .int (10 ^ 20), .str (Str.ofString ""), .str (Str.ofString "ab"), .tuple [], .list [], .tuple [.int 0], .tuple [.int (0 - 1)], .tuple [.tuple []], .tuple [.int 0, .int 0, .tuple []], .tuple [.int 0, .int 0, .tuple [.tuple []]]]) rfl (De.lstD (.cons .non (.cons .bl (.cons .int (.cons (De.op (De.int (n := 0)) (De.int (n := 1)) Rv.I0) (.cons (De.op (De.int (K := K)) (De.int (K := K)) (Rv.I (C := CPow) (i := 10) (j := 20) (f := fun i j => i ^ j.toNat) ⟨by decide, by decide, by decide⟩)) (.cons .str (.cons .str (.cons (De.tupD .nil (by show 0 ≤ sizeLine; decide)) (.cons (De.lstD .nil (by show 0 ≤ sizeLine; decide)) (.cons (De.tupD (.cons .int .nil) (by show 1 ≤ sizeLine; decide)) (.cons (De.tupD (.cons (De.op (De.int (n := 0)) (De.int (n := 1)) Rv.I0) .nil) (by show 1 ≤ sizeLine; decide)) (.cons (De.tupD (.cons (De.tupD .nil (by show 0 ≤ sizeLine; decide)) .nil) (by show 1 ≤ sizeLine; decide)) (.cons (De.tupD (.cons .int (.cons .int (.cons (De.tupD .nil (by show 0 ≤ sizeLine; decide)) .nil))) (by show 3 ≤ sizeLine; decide)) (.cons (De.tupD (.cons .int (.cons .int (.cons (De.tupD (.cons (De.tupD .nil (by show 0 ≤ sizeLine; decide)) .nil) (by show 1 ≤ sizeLine; decide)) .nil))) (by show 3 ≤ sizeLine; decide)) .nil)))))))))))))) (by show 14 ≤ sizeLine; decide)) (by simp) (by show 14 ≤ 1000; decide)) fun B v ⟨x, hx, hv⟩ => ⟨x, ⟨?_, ?_⟩, hv⟩) k
  rotate_left
  · simp only [List.mem_cons, List.not_mem_nil, or_false] at hx
    rcases hx with rfl | rfl | rfl | rfl | rfl | rfl | rfl | rfl | rfl | rfl | rfl | rfl | rfl | rfl
    all_goals (intro es e; first | (cases e; done) | (cases e; decide))
  have s1 : ∀ z : Str, z.length ≤ 9 → (∀ c ∈ z.cps.toList, c < 128) → ∀ {k : Nat}, Sm k 10 (.str z) := fun z h1 h2 => .str ⟨by omega, h2⟩
  have nilT : ∀ {k W : Nat}, Sm (k + 1) W (.tuple []) := fun {k W} => .tuple (W := 0) (fun x h => nomatch h) (by simp)
  simp only [List.mem_cons, List.not_mem_nil, or_false] at hx
  rcases hx with rfl | rfl | rfl | rfl | rfl | rfl | rfl | rfl | rfl | rfl | rfl | rfl | rfl | rfl
  · exact .none
  · exact .bool _
  · exact .int (by decide)
  · exact .int (by decide)
  · exact .int (by decide)
  · exact s1 _ (by decide +kernel) (by decide +kernel)
  · exact s1 _ (by decide +kernel) (by decide +kernel)
  · exact nilT
  · exact .list (W := 0) (fun x h => nomatch h) (by decide)
  · exact sm_tup1 (W := 0) (.int (by decide)) (by decide)
  · exact sm_tup1 (W := 0) (.int (by decide)) (by decide)
  · exact sm_tup1 (W := 0) nilT (by decide)
  · exact sm_tup3 (W := 0) (.int (by decide)) (.int (by decide)) nilT (by decide)
  · exact sm_tup3 (k := 2) (W := 1) (.int (by decide)) (.int (by decide)) (sm_tup1 (W := 0) nilT (by decide)) (by decide)
end
end K30

set_option Elab.async false
set_option linter.all false
set_option maxRecDepth 100000
set_option maxHeartbeats 1000000
/-! K30m: a row or a letter, bent. -/
namespace K30
open PySem PySem.Spec PyProof.Rows L2 Wb Wv Fm Ta
def Bent (k W n : Nat) (x : PyData) : Prop := Sm (k + 1) (2 * W + 70) x ∧ ∀ es, x = .tuple es → es.length ≤ n + 1
abbrev sp_bent (K : PySem.W.Frag) : Sp := DPf (α := Nat × Nat × List PyData) (fun a => [dat K (.tuple a.2.2)]) (fun a => Sm a.1 a.2.1 (.tuple a.2.2) ∧ 3 ≤ a.1 ∧ a.1 ≤ 40 ∧ 1 ≤ a.2.2.length ∧ a.2.2.length ≤ 6 ∧ a.2.1 ≤ 1000) (fun a => datP K (Bent a.1 a.2.1 a.2.2.length))
theorem cut_to {α : Type} (xs : List α) (n : Nat) : cutA xs none (some (n : Int)) = xs.take n := by
  unfold cutA
  rw [HT.sIx_none, HT.sIx_nat, List.drop_zero, Nat.sub_zero]
  rcases Nat.le_total n xs.length with h | h
  · rw [Nat.min_eq_left h]
  · rw [Nat.min_eq_right h, List.take_length, List.take_of_length_le h]
theorem cut_from {α : Type} (xs : List α) (n : Nat) : cutA xs (some (n : Int)) none = xs.drop n := by
  unfold cutA
  rw [HT.sIx_none, HT.sIx_nat]
  rcases Nat.le_total n xs.length with h | h
  · rw [Nat.min_eq_left h]
    exact List.take_of_length_le (by rw [List.length_drop]; exact Nat.le_refl _)
  · rw [Nat.min_eq_right h, Nat.sub_self, List.take_zero, List.drop_of_length_le h]
def tupNE (d : PyData) : Bool := match d with
  | .tuple (_ :: _) => true
  | _ => false
theorem tupNE_form {d : PyData} (h : tupNE d = true) : ∃ x l, d = .tuple (x :: l) := by
  unfold tupNE at h
  split at h
  · exact ⟨_, _, rfl⟩
  · cases h
theorem mul_two {n v w : Nat} (pos : 1 ≤ n) (h : n * (v + 1) ≤ w) : (n + 1) * (v + 1) ≤ 2 * w := by
  have : 1 * (v + 1) ≤ n * (v + 1) := Nat.mul_le_mul_right _ pos
  rw [Nat.succ_mul]
  omega
section
variable {P : Program} {w : World} {K : PySem.W.Frag} {mg : Str → Option Value} {base : Heap} {C_Form C_Tally C_InvalidForm C_InvalidSize C_InvalidSheets C_BlankError : Addr} {t_MOST_QUESTIONS : Tok}
theorem ne_test {σ : L2.St} {B : Hp} {v : V} {d : PyData} (hv : dat K d B v) (h1 : σ[3]? = some (some v)) (sh : SeqAt.shaped d = true) : Dt (tAnd (tB (tCB (rIsi K) (tCons (tVar 3) (tCons (tC (.ty "tuple")) tNil)))) (tTest (tOp (rNeD K) (tVar 3) (tTup tNil)))) σ B (tupNE d) := by
  cases ht : isD "tuple" d with
  | false =>
    have e : tupNE d = false := by cases d <;> first | rfl | cases ht
    rw [e]
    exact Dt.and (a := false) (b := false) (Dt.eq (Dt.tB (De.isi (.var hv h1) (by simp))) ht) fun z => nomatch z
  | true =>
    obtain ⟨ds, rfl⟩ : ∃ ds, d = .tuple ds := by cases d <;> first | exact ⟨_, rfl⟩ | cases ht
    refine Dt.and (a := true) (Dt.tB (De.isi (.var hv h1) (by simp))) fun _ => Dt.eq (Dt.test (De.op (r := rNeD K) (.var hv h1) (De.tupD (K := K) .nil (by show 0 ≤ sizeLine; decide)) (Rv.neD sh rfl))) ?_
    rw [eqv_nilT]
    cases ds <;> rfl
theorem sc_bent : FnScope ["deal", "row", "at", "old", "wrong"] ["deal", "row"] (defScope s_bent) := ⟨rfl, rfl, rfl, by decide +kernel, rfl, by decide +kernel, by decide +kernel⟩
theorem ok_bent (D : Def K mg "_law_bent" s_bent ["deal", "row"]) (C_any : Cal P w K mg base CX0 1 "_law_any" s_any ["deal", "bound"] spAny) (n_len : mg "len" = none) (C_of : Cal P w K mg base CX0 2 "_law_of" s_of ["deal", "some"] (spOf K)) (C_thing : Cal P w K mg base CX0 3 "_law_thing" s_thing ["deal"] (sp_thing K)) (n_tuple : mg "tuple" = none) (n_isinstance : mg "isinstance" = none) (n_list : mg "list" = none) : Cal P w K mg base CX0 4 "_law_bent" s_bent ["deal", "row"] (sp_bent K) := by
  refine D.ok sc_bent (fun vs H Q E h => ?_) (fun cdv f A outer s H vs Q E hr h => ?_)
  · exact dpf_len h fun _ => rfl
  replace h := dpf1 h
  obtain ⟨d, v, c, B, ⟨k0, W, ds⟩, rfl, L, hv, ⟨sm, k3, k40, l1, l6, w1⟩, k⟩ := h
  refine ⟨_, (pss_cons (ps_set (i := 2) sc_bent.nd rfl (Or.inl rfl) (pe_cal C_any (hr.mono (by decide)) (by rfl) pass0 (pa_cons (pv 0) (pa_cons (pe_callB call_len (by rfl) n_len (by decide +kernel) (pa_cons (pv 1) pa_nil)) pa_nil))))
    (pss_cons (ps_set (i := 3) sc_bent.nd rfl (Or.inl rfl) (pe_ix ix_tup (pv 1) (pv 2) (fun _ _ => rfl)))
    (pss_cons (ps_set (i := 4) sc_bent.nd rfl (Or.inl rfl) (pe_cal C_of (hr.mono (by decide)) (by rfl) pass0 (pa_cons (pv 0) (pa_cons (pe_lst (pa_cons (pe_cal C_thing (hr.mono (by decide)) (by rfl) pass0 (pa_cons (pv 0) pa_nil)) (pa_cons (pe_op op_sub pe_int pe_int) (pa_cons pe_bl (pa_cons (pe_lst (pa_cons (pv 3) pa_nil)) (pa_cons (pv 3) pa_nil)))))) pa_nil))))
    (pss_cons (ps_if (PW.pt (pw_and (pt_val (pe_callB call_isi (by rfl) n_isinstance (by decide +kernel) (pa_cons (pv 3) (pa_cons (pe_bltn (by rfl) n_tuple (by decide +kernel) (show RelV (.ty "tuple") (.type "tuple") from rfl)) pa_nil)))) (pw_and1 (pt_cmpR (op_neD hr.units) (pv 3) (pe_tup pa_nil) (nomark _))))) (pss_one (ps_set (i := 4) sc_bent.nd rfl (Or.inl rfl) (pe_cal C_of (hr.mono (by decide)) (by rfl) pass0 (pa_cons (pv 0) (pa_cons (pe_lst (pa_cons (pv 4) (pa_cons (pe_revT (pv 3)) (pa_cons (pe_op op_catA (pv 3) (pe_tup (pa_cons (pe_ix ix_tup (pv 3) pe_int (fun _ _ => rfl)) pa_nil))) (pa_cons (pe_slice sl_tupA (pv 3) (po_some pe_int) po_none) (pa_cons (pe_op op_catA (pv 3) (pe_tup (pa_cons (pe_tup pa_nil) pa_nil))) (pa_cons (pe_op op_catA (pe_tup (pa_cons (pe_tup pa_nil) pa_nil)) (pv 3)) (pa_cons (pe_callTy call_list_of (by rfl) n_list (by decide +kernel) (pa_cons (pv 3) pa_nil)) pa_nil)))))))) pa_nil))))) pss_nil)
    (pss_one (ps_ret (pe_cal C_of (hr.mono (by decide)) (by rfl) pass0 (pa_cons (pv 0) (pa_cons (pe_lst (pa_cons (pe_op op_catA (pe_op op_catA (pe_slice sl_tupA (pv 1) po_none (po_some (pv 2))) (pe_tup (pa_cons (pv 4) pa_nil))) (pe_slice sl_tupA (pv 1) (po_some (pe_op op_add (pv 2) pe_int)) po_none)) (pa_cons (pe_op op_catA (pe_op op_catA (pe_slice sl_tupA (pv 1) po_none (po_some (pv 2))) (pe_tup (pa_cons (pv 4) pa_nil))) (pe_slice sl_tupA (pv 1) (po_some (pe_op op_add (pv 2) pe_int)) po_none)) (pa_cons (pe_op op_catA (pe_op op_catA (pe_slice sl_tupA (pv 1) po_none (po_some (pv 2))) (pe_tup (pa_cons (pv 4) pa_nil))) (pe_slice sl_tupA (pv 1) (po_some (pe_op op_add (pv 2) pe_int)) po_none)) (pa_cons (pe_slice sl_tupA (pv 1) (po_some pe_int) po_none) (pa_cons (pe_callTy call_list_of (by rfl) n_list (by decide +kernel) (pa_cons (pv 1) pa_nil)) (pa_cons (pe_op op_catA (pv 1) (pe_tup (pa_cons pe_int pa_nil))) pa_nil))))))) pa_nil))))))))), ?_⟩
  have hv : dat K (.tuple ds) B v := hv
  have sm : Sm k0 W (.tuple ds) := sm
  have k3 : 3 ≤ k0 := k3
  have l1 : 1 ≤ ds.length := l1
  have l6 : ds.length ≤ 6 := l6
  have w1 : W ≤ 1000 := w1
  have k40 : k0 ≤ 40 := k40
  have k : ∀ (v : V) (B' H' : Hp), ExtD d c B H B' H' → datP K (Bent k0 W ds.length) B' v → Q v H' := k
  obtain ⟨j, w0, rfl, hs, hl⟩ := sm.tupInv
  refine s_raw (c_any (K := K) (n := (ds.length : Int)) L rfl (De.lenT (.var hv rfl)) (by omega) (by omega) fun r B1 H1 r0 r1 e1 => ?_)
  obtain ⟨i, rfl⟩ := Int.eq_ofNat_of_zero_le r0
  have il : i < ds.length := by omega
  have hi : ds[i]? = some ds[i] := List.getElem?_eq_getElem il
  refine s_set (De.op (r := rIxT K) (.var (Mo.mo e1.bb hv) rfl) (.var (Dp.int (i : Int)) rfl) (Rv.ixTD (d := ds[i]) (atI_nat hi))) e1.bh fun v3 B2 H2 e2 h3 => ?_
  have so : Sm j w0 ds[i] := hs _ (List.getElem_mem il)
  have h3 : dat K ds[i] B2 v3 := h3
  generalize ds[i] = old at h3 so hi
  have eA := e1.trans L (.of e1.dl e2)
  have wB : w0 ≤ 1000 := by
    have : 1 * (w0 + 1) ≤ ds.length * (w0 + 1) := Nat.mul_le_mul_right _ l1
    omega
  have thg : ∀ {σ : L2.St} {B : Hp} {E : XK}, σ[0]? = some (some (.ref d)) → Dw (tCall (sp_thing K) [] E (tCons (tVar 0) tNil)) σ d c B (datP K (Sm (j + 1) (2 * w0 + 10))) := fun hd => Dw.cv (Dw.def1 (args := fun _ : Unit => []) (res := fun _ => datP K ThP) () hd .nil trivial) fun _ _ ⟨x, hx, h⟩ => ⟨x, hx.1.mono k3 (by omega), h⟩
  refine s_w eA.dl (Dw.pick (S := datP K (Sm (j + 1) (2 * w0 + 10))) rfl (.cons (thg rfl) (.cons (Dw.D1 (De.op (De.int (n := 0)) (De.int (K := K) (n := 1)) Rv.I0) (.int (by decide))) (.cons (Dw.D1 (De.bl (K := K)) (.bool _)) (.cons (Dw.D1 (De.lstD (.cons (.var h3 rfl) .nil) (by show 1 ≤ sizeLine; decide)) (sm_lst1 so (by omega))) (.cons (Dw.D1 (.var h3 rfl) (so.mono (by omega) (by omega))) .nil))))) (by decide) (by decide)) fun v4 B3 H3 e3 h4 => ?_
  have eB := eA.trans L e3
  have h3 := Mo.mo e3.bb h3
  refine s_ifB (fun σ2 H2 => ∃ v4 B4 x, σ2 = [some (.ref d), some v, some (.int (i : Int)), some v3, some v4] ∧ ExtD d c B H B4 H2 ∧ Sm (j + 1) (2 * w0 + 10) x ∧ dat K x B4 v4) (ne_test h3 rfl (so.shaped (by omega))) eB.bh (fun t B4 H4 e4 Z hZ => ?_) (fun _ B4 H4 e4 => ?_) ?_
  · obtain ⟨y, l, rfl⟩ := tupNE_form t
    obtain ⟨i2, u, rfl, hy, hul⟩ := so.tupInv
    have pos : 1 ≤ (y :: l).length := Nat.succ_le_succ (Nat.zero_le _)
    have lle : (y :: l).length ≤ 2000 := by
      have : (y :: l).length * 1 ≤ (y :: l).length * (u + 1) := Nat.mul_le_mul_left _ (by omega)
      omega
    have m2 := mul_two pos hul
    have eC := eB.trans L (.of eB.dl e4)
    have h3 := Mo.mo e4.bb h3
    have h4 := Mo.mo e4.bb h4
    have line := sizeLine_eq
    have old : De (tVar 3) [some (.ref d), some v, some (.int (i : Int)), some v3, some v4] B4 (dat K (.tuple (y :: l))) := .var h3 rfl
    have one : De (tTup (tCons (tTup tNil) tNil)) [some (.ref d), some v, some (.int (i : Int)), some v3, some v4] B4 (dat K (.tuple [.tuple []])) := De.tupD (.cons (De.tupD .nil (by show 0 ≤ sizeLine; decide)) .nil) (by show 1 ≤ sizeLine; decide)
    have nilT : ∀ {k W : Nat}, Sm (k + 1) W (.tuple []) := fun {k W} => .tuple (W := 0) (fun x h => nomatch h) (by simp)
    have hyu : ∀ x ∈ y :: l, Sm (i2 + 1) u x := fun x hx => (hy x hx).mono (by omega) (Nat.le_refl _)
    refine s_wE eC.dl (Dw.pick (S := datP K (Sm (i2 + 1 + 1) (2 * w0 + 10))) rfl (.cons (Dw.of (.var (R := datP K (Sm (i2 + 1 + 1) (2 * w0 + 10))) h4 rfl)) (.cons (Dw.D1 (De.revT old) ?_) (.cons (Dw.D1 (De.op (r := rCatA K) old (De.tupD (ds := [y]) (.cons (De.op (r := rIxT K) old (De.int (n := 0)) (Rv.ixTD (d := y) (atI_nat (j := 0) rfl))) .nil) (by show 1 ≤ sizeLine; decide)) (Rv.catT (by rw [line]; show _ + 1 ≤ _; omega))) ?_) (.cons (Dw.D1 (De.slT (lo := some ((1 : Nat) : Int)) (hi := none) old (.some (K := K) .int) .none) ?_) (.cons (Dw.D1 (De.op (r := rCatA K) old one (Rv.catT (by rw [line]; show _ + 1 ≤ _; omega))) ?_) (.cons (Dw.D1 (De.op (r := rCatA K) one old (Rv.catT (by rw [line]; show 1 + _ ≤ _; omega))) ?_) (.cons (Dw.D1 (De.listT old) (Sm.list hyu (by omega))) .nil))))))) (by decide) (by decide)) fun u4 B5 H5 e5 h5 => ?_
    · exact Sm.tuple (fun x hx => hyu x (List.mem_reverse.mp hx)) (by rw [List.length_reverse]; omega)
    · refine Sm.tuple (W := u) (fun x hx => ?_) (by rw [List.length_append]; show ((y :: l).length + 1) * (u + 1) ≤ _; omega)
      rcases List.mem_append.mp hx with h | h
      · exact hyu x h
      · rw [List.mem_singleton.mp h]
        exact hyu y List.mem_cons_self
    · rw [cut_from]
      refine Sm.tuple (W := u) (fun x hx => hyu x (List.mem_of_mem_drop hx)) ?_
      have : ((y :: l).drop 1).length * (u + 1) ≤ (y :: l).length * (u + 1) := Nat.mul_le_mul_right _ (by rw [List.length_drop]; omega)
      omega
    · refine Sm.tuple (W := u) (fun x hx => ?_) (by rw [List.length_append]; show ((y :: l).length + 1) * (u + 1) ≤ _; omega)
      rcases List.mem_append.mp hx with h | h
      · exact hyu x h
      · rw [List.mem_singleton.mp h]
        exact nilT
    · refine Sm.tuple (W := u) (fun x hx => ?_) (by rw [List.length_append]; show (1 + (y :: l).length) * (u + 1) ≤ _; rw [Nat.add_comm]; omega)
      rcases List.mem_append.mp hx with h | h
      · rw [List.mem_singleton.mp h]
        exact nilT
      · exact hyu x h
    · obtain ⟨x, hx, h5⟩ := h5
      exact hZ _ _ ⟨u4, B5, x, rfl, eC.trans L e5, hx, h5⟩
  · obtain ⟨x, hx, h4⟩ := h4
    exact ⟨v4, B4, x, rfl, eB.trans L (.of eB.dl e4), hx, Mo.mo e4.bb h4⟩
  · rintro σ2 H4 ⟨v4, B4, x, rfl, e4, sx, h4⟩
    have hv := Mo.mo e4.bb hv
    have line := sizeLine_eq
    have row : De (tVar 1) [some (.ref d), some v, some (.int (i : Int)), some v3, some v4] B4 (dat K (.tuple ds)) := .var hv rfl
    have tl : (ds.take i).length = i := by rw [List.length_take]; omega
    have dl : (ds.drop (i + 1)).length = ds.length - (i + 1) := List.length_drop
    have cutE : Dw (tOp (rCatA K) (tOp (rCatA K) (L2.tSl (rSlA K) (tVar 1) tNoPart (tPart (tVar 2))) (tTup (tCons (tVar 4) tNil))) (L2.tSl (rSlA K) (tVar 1) (tPart (tOp (rI0 fun i j => V.int (i + j)) (tVar 2) (tC (.int 1)))) tNoPart)) [some (.ref d), some v, some (.int (i : Int)), some v3, some v4] d c B4 (datP K (Bent (j + 1) W ds.length)) := by
      refine Dw.D1 (x := .tuple ((ds.take i ++ [x]) ++ ds.drop (i + 1))) (De.op (r := rCatA K) (De.op (r := rCatA K) (De.eq (De.slT (lo := none) (hi := some (i : Int)) row .none (.some (K := K) (.var (Dp.int (i : Int)) rfl))) (by rw [cut_to])) (De.tupD (ds := [x]) (.cons (.var h4 rfl) .nil) (by show 1 ≤ sizeLine; decide)) (Rv.catT (by rw [line, tl]; show _ + 1 ≤ _; omega))) (De.eq (De.slT (lo := some ((i + 1 : Nat) : Int)) (hi := none) row (.some (K := K) (De.eq (De.op (.var (Dp.int (i : Int)) rfl) .int Rv.I0) (e := .int ((i + 1 : Nat) : Int)) (congrArg PyData.int (by omega)))) .none) (by rw [cut_from])) (Rv.catT (by rw [line, List.length_append, tl, dl]; show _ + 1 + _ ≤ _; omega))) ⟨?_, fun es he => ?_⟩
      · refine Sm.tuple (k := j + 1) (W := 2 * w0 + 10) (fun y hy => ?_) ?_
        · rcases List.mem_append.mp hy with h | h
          · rcases List.mem_append.mp h with h | h
            · exact (hs y (List.mem_of_mem_take h)).mono (by omega) (by omega)
            · rw [List.mem_singleton.mp h]
              exact sx
          · exact (hs y (List.mem_of_mem_drop h)).mono (by omega) (by omega)
        · rw [List.length_append, List.length_append, tl, dl]
          have : i + [x].length + (ds.length - (i + 1)) = ds.length := by show i + 1 + _ = _; omega
          rw [this]
          have e : ds.length * (2 * w0 + 10 + 1) = 2 * (ds.length * (w0 + 1)) + 9 * ds.length := by
            rw [show 2 * w0 + 10 + 1 = 2 * (w0 + 1) + 9 by omega, Nat.mul_add, Nat.mul_left_comm, Nat.mul_comm ds.length 9]
          omega
      · injection he with he
        rw [← he, List.length_append, List.length_append, tl, dl]
        show i + 1 + _ ≤ _
        omega
    refine s_retW e4.dl (Dw.pick (S := datP K (Bent (j + 1) W ds.length)) rfl (.cons cutE (.cons cutE (.cons cutE (.cons (Dw.D1 (De.slT (lo := some ((1 : Nat) : Int)) (hi := none) row (.some (K := K) .int) .none) ?_) (.cons (Dw.D1 (De.listT row) ?_) (.cons (Dw.D1 (De.op (r := rCatA K) row (De.tupD (ds := [.int 0]) (.cons .int .nil) (by show 1 ≤ sizeLine; decide)) (Rv.catT (by rw [line]; show _ + 1 ≤ _; omega))) ?_) .nil)))))) (by decide) (by decide)) fun v B' H' e h => k v B' H' (e4.trans L e) h
    · rw [cut_from]
      refine ⟨Sm.tuple (k := j + 1) (W := w0) (fun y hy => (hs y (List.mem_of_mem_drop hy)).mono (by omega) (Nat.le_refl _)) ?_, fun es he => ?_⟩
      · have : (ds.drop 1).length * (w0 + 1) ≤ ds.length * (w0 + 1) := Nat.mul_le_mul_right _ (by rw [List.length_drop]; omega)
        omega
      · injection he with he
        rw [← he, List.length_drop]
        omega
    · exact ⟨Sm.list (k := j + 1) (W := w0) (fun y hy => (hs y hy).mono (by omega) (Nat.le_refl _)) (by omega), fun es he => nomatch he⟩
    · refine ⟨Sm.tuple (k := j + 1) (W := w0) (fun y hy => ?_) ?_, fun es he => ?_⟩
      · rcases List.mem_append.mp hy with h | h
        · exact (hs y h).mono (by omega) (Nat.le_refl _)
        · rw [List.mem_singleton.mp h]
          exact .int (by decide)
      · have := mul_two (n := ds.length) (v := w0) (w := W) l1 hl
        rw [List.length_append]
        show (ds.length + 1) * (w0 + 1) ≤ _
        omega
      · injection he with he
        rw [← he, List.length_append]
        exact Nat.le_refl _
end
end K30

set_option Elab.async false
set_option linter.all false
set_option maxRecDepth 100000
set_option maxHeartbeats 1000000
/-! We5: an own == asked of any data; of an instance or of data; two fields by keywords, turned round. -/
namespace Wv
open PySem PySem.Spec PyProof.Rows L2 Wb
section
variable {X : Cx} {n : Nat} {C : Addr} {S : Sp}
theorem eq_runsY {A : Around} {pins : List (Addr × Obj)} {σ : L2.St} {H : Hp} {s : Shared} {a f : Addr} {y : V} {u : Value} {fd : FuncData} {G : Bool → Hp → Prop} {R : Value → Shared → Prop} (F : FnOk X.prog X.w X.K X.mg X.base CX0 n f fd ["self", "other"] S) (hb : Binds X.K fd ["self", "other"] []) (hr : Room n A) (hfr : A.frames = X.A.frames) (I : Inv X pins σ H s) (ry : RelV y u)
    (hs : S [.ref a, y] H (fun v H' => ∃ t, v = .bl t ∧ G t H') E0) (k : ∀ t H' s', G t H' → Inv X pins σ H' s' → R (.bool t) s') : wpAny (model X.prog X.w) A (call (.ref f) [.ref a, u]) R X.xe s := by
  have e0 : Env0 X.prog X.w X.K X.mg X.base A X.stack s H := by
    have e := I.env0
    exact ⟨by rw [hfr]; exact e.frames, e.mod, e.bs, e.bsz, e.funs, e.frf, e.hok, e.bare⟩
  have hl := F.len _ _ _ _ hs
  have r2 : Vals [V.ref a, y] [Value.ref a, u] := .cons rfl (.cons ry .nil)
  refine wpAny_call (codeAny_mono (F.run A X.stack s H ⟨[.ref a, u], []⟩ [.ref a, u] [.ref a, y] _ E0 hr e0 (by
    have := hb s [.ref a, u] I.kIn (by simpa using hl)
    simpa using this) r2 hs) fun r s' hq => ?_)
  cases r with
  | error e => exact pass0 (X := X) pins σ H s e s' I hq
  | ok fl =>
    cases fl with
    | ret w =>
      obtain ⟨z, H', I', rz, t, ez, g⟩ := I.after hq
      subst ez
      cases rz
      exact k t H' s' g I'
    | next => exact False.elim hq
    | brk => exact False.elim hq
    | cont => exact False.elim hq
def rEqY (K : PySem.W.Frag) (C : Addr) (S : Sp) : R2 := fun x y H Q => ∃ a dx fs tb, x = .ref a ∧ H a = some (.ins C dx fs) ∧ TyX K H y tb ∧ PySem.W.notFirst K C tb = true ∧ S [x, y] H (fun v H' => ∃ t, v = .bl t ∧ Q (.bl t) H') E0
theorem op_eqY (c : CalE X.prog X.w X.K X.mg X.base n C S) (hr : Room n X.A) : OpR X (compareOp .Eq) (rEqY X.K C S) := by
  intro pins s σ H x y v u Q I rx ry hq
  obtain ⟨a, dx, fs, tb, rfl, ha, hT, nf, hS⟩ := hq
  obtain ⟨f, fd, F, hs, hf, hb⟩ := c
  cases rx
  obtain ⟨Pq, Z, pq, _⟩ := kit_of I ry hT
  obtain ⟨mA, J, _⟩ := ins_get I.hok ha
  obtain ⟨od, J, _⟩ := J.look
  obtain ⟨m, hF⟩ := I.fr
  show wpAny (model X.prog X.w) X.A (richCompare .Eq (.ref a) u) (EP X pins σ Q) X.xe s
  refine PySem.W.cmp_K (op := .Eq) (tb := tb) hr.units0 hF I.ok.mod.kin J (Z.ty _ _ I.kIn pq) nf hs hf ?_
  exact eq_runsY F hb hr rfl I ry hS fun t H' s' g I' => ⟨.bl t, H', I', rfl, g⟩
/-- of an instance, or of data -/
def rEqM (K : PySem.W.Frag) (C : Addr) (S : Sp) : R2 := fun x y H Q => rEqI C S x y H Q ∨ rEqY K C S x y H Q ∨ rEqD K x y H Q
theorem op_eqM (c : CalE X.prog X.w X.K X.mg X.base n C S) (hr : Room n X.A) (hu : X.A.units + 64 < cLine) : OpR X (compareOp .Eq) (rEqM X.K C S) := by
  intro pins s σ H x y v u Q I rx ry hq
  rcases hq with h | h | h
  · exact op_eqC c hr pins s σ H x y v u Q I rx ry h
  · exact op_eqY c hr pins s σ H x y v u Q I rx ry h
  · exact op_eqD hu pins s σ H x y v u Q I rx ry h
end
theorem notFirst_data {K : PySem.W.Frag} {C : Addr} : ∀ t ∈ ["NoneType", "bool", "int", "str", "list", "tuple", "dict"], PySem.W.notFirst K C (.type t) = true := by
  intro t ht
  unfold PySem.W.notFirst PySem.W.subIn
  simp only [List.mem_cons, List.not_mem_nil, or_false] at ht
  rcases ht with rfl | rfl | rfl | rfl | rfl | rfl | rfl <;> rfl
section
variable {C : Addr} {B : Hp} {R R' : Rel} {α : Type} {args : α → List Rel} {pre : α → Prop} {res : α → Rel} {K : PySem.W.Frag} {d : PyData}
theorem Rv.eqDatY [i : IsIns C R] {t : Bool} (a : α) (hp : pre a) (ha : ∀ B x y, R B x → dat K d B y → AllR (args a) B [x, y]) (hr : res a = dat K (.bool t)) : Rv (rEqY K C (Pf args pre res)) B R (dat K d) (dat K (.bool t)) := fun x y B1 H s1 s2 hx hy Q q => by
  obtain ⟨b, dx, fs, rfl, hb⟩ := i.ins hx
  have ty : TyX K H y (.type (tyN d)) := ty_dat (dpMono s2 _ _ hy)
  refine ⟨b, dx, fs, _, rfl, s2 _ _ hb, ty, notFirst_data _ (tyN_mem d), B1, a, s2, ha _ _ _ hx hy, hp, fun v B' H' e hv => ?_⟩
  rw [hr] at hv
  have : v = .bl t := dat_bl hv
  exact ⟨t, this, q _ B' H' e (this ▸ hv)⟩
theorem Rv.orL {r1 r2 : R2} {T : Rel} (h : Rv r1 B R R' T) : Rv (fun x y H Q => r1 x y H Q ∨ r2 x y H Q) B R R' T := fun x y B1 H s1 s2 hx hy Q q => .inl (h x y B1 H s1 s2 hx hy Q q)
theorem Rv.orR {r1 r2 : R2} {T : Rel} (h : Rv r2 B R R' T) : Rv (fun x y H Q => r1 x y H Q ∨ r2 x y H Q) B R R' T := fun x y B1 H s1 s2 hx hy Q q => .inr (h x y B1 H s1 s2 hx hy Q q)
end
section
variable (P : Program) (w : World) (K : PySem.W.Frag) (mg : Str → Option Value) (base : Heap)
/-- .. made by keywords alone, turned round -/
structure CalCR (x : Str) (C : Addr) (f1 f2 : Str) : Prop where
  g : mg x = some (.ref C)
  ini : ∃ (f : Addr) (fd : FuncData), Mk K C f ∧ FnOk P w K mg base CX0 1 f fd ("self" :: [f1, f2]) (spIns C [f1, f2]) ∧ KBn K fd ("self" :: [f1, f2]) 1 [f2, f1] (fun us ws => us ++ ws.reverse) (fun vs zs => vs ++ zs.reverse)
end
theorem vals_rev : ∀ {vs : List V} {us : List Value}, Vals vs us → Vals vs.reverse us.reverse
  | _, _, .nil => .nil
  | _, _, .cons r t => by
    rw [List.reverse_cons, List.reverse_cons]
    exact vals_app (vals_rev t) (.cons r .nil)
theorem kbr_of {K : PySem.W.Frag} {x qual : Str} {st : Stmt} {f : Addr} {fd : FuncData} {ps ks : List Str} (F : Fun K x qual st f fd)
    (h : ∀ (kV doc pm : Value) (an : Option Addr) (cdv ct : Value) (us ws : List Value), us.length = 1 → ws.length = ks.length → bindArgs (PySem.W.fnOf x qual (defArgs st) (defBody st) (defScope st) .none kV doc pm an cdv ct) ⟨us, ks.zip ws⟩ = pure (ps.zip (us ++ ws.reverse))) :
    KBn K fd ps 1 ks (fun us ws => us ++ ws.reverse) (fun vs zs => vs ++ zs.reverse) := by
  obtain ⟨oc, od, kV, doc, pm, an, cdv, ct, osl, rfl, lk, hcd⟩ := F.ex
  exact ⟨fun s us ws _ l1 l2 => .of_eq (h kV doc pm an cdv ct us ws l1 l2), fun r1 r2 => vals_app r1 (vals_rev r2)⟩
section
variable {X : Cx} {x : Str} {C : Addr} {f1 f2 : Str} {k : Nat} {p pos : Pos} {kws : List Keyword} {tk : TA}
theorem pe_calCR (c : CalCR X.prog X.w X.K X.mg X.base x C f1 f2) (hr : Room k X.A) (hk : 2 ≤ k) (hg : Gl X x) (hkw : PK X kws tk)
    (hall : (backToKw pos (keywordEach kws X.env)).all (·.1.isSome) = true := by rfl) (hks : (backToKw pos (keywordEach kws X.env)).filterMap (·.1) = [f2, f1] := by rfl) (hdb : (x == ("__debug__" : Str)) = false := by decide)
    (hpl : ((backTo pos (starEach [] X.env)).any (·.1) || (backToKw pos (keywordEach kws X.env)).any (·.1.isNone)) = false := by rfl) :
    PE X (.Call (.Name x p) [] kws pos) (tMakeK C 0 [f2, f1].length (spIns C [f1, f2]) (fun vs zs => vs ++ zs.reverse) E0 tNil tk) := by
  obtain ⟨f, fd, M, F, b⟩ := c.ini
  exact pe_makeK0 M F (hr.mono hk) hg c.g b pass0 hkw hall hks hdb hpl
end
section
variable {σ : L2.St} {B : Hp} {R1 R2 : Rel}
theorem De.makeR {C : Addr} {f1 f2 : Str} {ta : TA} [m : MoA [R2, R1]] [m2 : MoA [R1, R2]] (ha : Da ta σ B [R2, R1]) : De (tMakeK C 0 2 (spIns C [f1, f2]) (fun vs zs => vs ++ zs.reverse) E0 tNil ta) σ B (insR C [(f1, R1), (f2, R2)]) := fun B1 H s1 s2 Q q =>
  ha B1 H s1 s2 _ fun vs B2 H2 e hv => by
    obtain ⟨u2, r, rfl, h2, u1, r', rfl, h1, hr⟩ := hv
    have hr : r' = [] := hr
    subst hr
    refine ⟨rfl, rfl, fun x dx hx hd ne => ?_⟩
    refine ⟨x, dx, [u1, u2], rfl, rfl, upd_same, rfl, ?_⟩
    rw [upd_over]
    have e1 : Ext B2 H2 B2 (upd H2 dx (.own x)) := .own e.bh hd
    have hx1 : upd H2 dx (.own x) x = none := by
      rw [upd_ne ne.symm]
      exact hx
    have e2 := Ext.new (o := .ins C dx ([f1, f2].zip [u1, u2])) e1.bh hx1
    exact q _ _ _ ((e.trans e1).trans e2) ⟨x, dx, _, rfl, upd_same, allF_zip (fs := [f1, f2]) (Rs := [R1, R2]) rfl (m2.mo (new_same (e.bh.free hx)) ⟨u1, [u2], rfl, h1, u2, [], rfl, h2, rfl⟩)⟩
end
end Wv

set_option Elab.async false
set_option linter.all false
set_option maxRecDepth 100000
set_option maxHeartbeats 1000000
/-! K30p: == of tallies of anything. -/
namespace K30
open PySem PySem.Spec PyProof.Rows L2 Wb Wv Fm Ta
abbrev talR (K : PySem.W.Frag) (CF CT : Addr) (a : Bool × PyData × PyData) : Rel := insR CT [("form", valR K CF a.1 a.2.1), ("rows", dat K a.2.2)]
/-- == of what stands as a form -/
def eqV (b : Bool) (f : PyData) (b2 : Bool) (f2 : PyData) : Bool := if b then b2 && PyData.eqv f f2 else PyData.eqv f f2
def eqTV (a : Bool × PyData × PyData) (t : TV) : Bool := match t with
  | .tal b2 f2 r2 => eqV a.1 a.2.1 b2 f2 && PyData.eqv a.2.2 r2
  | .dat _ => false
def okTV (a : Bool × PyData × PyData) (t : TV) : Prop := match t with
  | .tal b2 f2 r2 => SeqAt.shaped a.2.1 = true ∧ SeqAt.shaped a.2.2 = true ∧ SeqAt.shaped f2 = true ∧ SeqAt.shaped r2 = true ∧ (a.1 = false → b2 = false)
  | .dat _ => True
abbrev sp_eqTally (K : PySem.W.Frag) (CF CT : Addr) : Sp := Pf (α := (Bool × PyData × PyData) × TV) (fun a => [talR K CF CT a.1, tvR K CF CT a.2]) (fun a => okTV a.1 a.2) (fun a => dat K (.bool (eqTV a.1 a.2)))
section
variable {P : Program} {w : World} {K : PySem.W.Frag} {mg : Str → Option Value} {base : Heap} {C_Form C_Tally C_InvalidForm C_InvalidSize C_InvalidSheets C_BlankError : Addr} {t_MOST_QUESTIONS : Tok}
theorem De.eqV {σ : L2.St} {B : Hp} {ta tb : TE} {b b2 : Bool} {f f2 : PyData} (h : De ta σ B (valR K C_Form b f)) (h2 : De tb σ B (valR K C_Form b2 f2)) (s1 : SeqAt.shaped f = true) (s2 : SeqAt.shaped f2 = true) (nb : b = false → b2 = false) : De (tOp (rEqM K C_Form (sp_eqForm K C_Form)) ta tb) σ B (dat K (.bool (K30.eqV b f b2 f2))) := by
  cases b with
  | true =>
    have h : De ta σ B (formD K C_Form f) := h
    cases b2 with
    | true =>
      have h2 : De tb σ B (formD K C_Form f2) := h2
      exact De.op (r := rEqM K C_Form (sp_eqForm K C_Form)) h h2 (Rv.orL (Rv.eqIns (args := fun a : PyData × Bool × PyData => [formD K C_Form a.1, valR K C_Form a.2.1 a.2.2]) (pre := fun a => SeqAt.shaped a.1 = true ∧ SeqAt.shaped a.2.2 = true) (res := fun a => dat K (.bool (a.2.1 && PyData.eqv a.1 a.2.2))) (f, true, f2) ⟨s1, s2⟩ (fun B p q hp hq => ⟨p, [q], rfl, hp, q, [], rfl, hq, rfl⟩) rfl))
    | false =>
      have h2 : De tb σ B (dat K f2) := h2
      exact De.op (r := rEqM K C_Form (sp_eqForm K C_Form)) h h2 (Rv.orR (Rv.orL (Rv.eqDatY (args := fun a : PyData × Bool × PyData => [formD K C_Form a.1, valR K C_Form a.2.1 a.2.2]) (pre := fun a => SeqAt.shaped a.1 = true ∧ SeqAt.shaped a.2.2 = true) (res := fun a => dat K (.bool (a.2.1 && PyData.eqv a.1 a.2.2))) (f, false, f2) ⟨s1, s2⟩ (fun B p q hp hq => ⟨p, [q], rfl, hp, q, [], rfl, hq, rfl⟩) rfl)))
  | false =>
    have e := nb rfl
    subst e
    have h : De ta σ B (dat K f) := h
    have h2 : De tb σ B (dat K f2) := h2
    exact De.op (r := rEqM K C_Form (sp_eqForm K C_Form)) h h2 (Rv.orR (Rv.orR (Rv.eqD s1 s2)))
theorem eq_tally {f : Addr} {fd : FuncData} (F : Fun K "__eq__" "Tally.__eq__" (inClass (topS 20) 1) f fd) (n_isinstance : mg "isinstance" = none) (E_Form : CalE P w K mg base 1 C_Form (sp_eqForm K C_Form)) (K_Tally : CalC P w K mg base "Tally" C_Tally ["form", "rows"]) (t_Tally : IsiC K C_Tally) (u_Tally : NotC K C_Tally) : FnOk P w K mg base CX0 2 f fd ["self", "other"] (sp_eqTally K C_Form C_Tally) := by
  refine F.ok (N := ["self", "other"]) ⟨rfl, rfl, rfl, by decide +kernel, rfl, by decide +kernel, by decide +kernel⟩ (fun vs H Q E h => ?_) (fun cdv A outer s H vs Q E hr h => ?_)
  · exact pf_len h fun _ => rfl
  replace h := pf2 h
  obtain ⟨v, v1, B, ⟨⟨b, f, r⟩, t⟩, rfl, hB, hv, hv1, ok, k⟩ := h
  refine ⟨_, pss_one (ps_ret (pe_and (pe_callB call_isi (by rfl) n_isinstance (by decide +kernel) (pa_cons (pv 1) (pa_cons (pe_glob (by rfl) K_Tally.g (show RelV (.ref C_Tally) (.ref C_Tally) from rfl)) pa_nil))) (pe_and (pe_cmpR (op_eqM E_Form (hr.mono (by decide)) hr.units) (pe_fld (pv 0) rfl) (pe_fld (pv 1) rfl) (nomark _)) (pe_one (pe_cmpR (op_eqD hr.units) (pe_fld (pv 0) rfl) (pe_fld (pv 1) rfl) (nomark _)))))), ?_⟩
  have hv : insR C_Tally [("form", valR K C_Form b f), ("rows", dat K r)] B v := hv
  cases t with
  | tal b2 f2 r2 =>
    have hv1 : insR C_Tally [("form", valR K C_Form b2 f2), ("rows", dat K r2)] B v1 := hv1
    obtain ⟨s1, s2, s3, s4, nb⟩ : SeqAt.shaped f = true ∧ SeqAt.shaped r = true ∧ SeqAt.shaped f2 = true ∧ SeqAt.shaped r2 = true ∧ (b = false → b2 = false) := ok
    exact s_ret (De.andV (a := true) (isiC K_Tally.c t_Tally (.var hv1 rfl)) fun _ => De.andV (De.eqV (fldF K_Tally (.var hv rfl)) (fldF K_Tally (.var hv1 rfl)) s1 s3 nb) fun _ => De.op (r := rEqD K) (fldR K_Tally (.var hv rfl)) (fldR K_Tally (.var hv1 rfl)) (Rv.eqD s2 s4)) hB k
  | dat d =>
    have hv1 : dat K d B v1 := hv1
    exact s_ret (De.andV (a := false) (b := false) (isiN u_Tally (.var hv1 rfl)) fun z => nomatch z) hB k
end
end K30

set_option Elab.async false
set_option linter.all false
set_option maxRecDepth 100000
set_option maxHeartbeats 1000000
/-! We6: lists made out of a hidden list, hidden too. -/
namespace Wv
open PySem PySem.Spec PyProof.Rows L2 Wb
section
variable {d c : Addr} {B H : Hp}
/-- what is new was not there before -/
theorem ExtD.old {B' H' : Hp} {p : Addr} (L : Dl B H d c) (e : ExtD d c B H B' H') (h : H' p = none) : H p = none := by
  cases z : H p with
  | none => rfl
  | some o =>
    by_cases n1 : p = d
    · rw [n1] at h
      exact absurd h (Deal.atD e.deal).1
    · by_cases n2 : p = c
      · rw [n2] at h
        exact absurd h (Deal.atD e.deal).2
      · rw [e.keep z n1 n2] at h
        cases h
end
/-- te makes (or is) a hidden list, new since Hz, of so many things of a kind, while the list at M holds xs -/
def Dm (te : TE) (σ : L2.St) (d c M : Addr) (xs : List V) (B B0 Hz : Hp) (S : Rel) (n : Nat) : Prop := ∀ B1 H1, ExtD d c B0 Hz B1 H1 → Same B B1 → Ml d c B1 H1 M xs → ∀ Q : VK, (∀ p zs B2 H2, ExtD d c B1 H1 B2 H2 → Ml d c B2 H2 p zs → Hz p = none → zs.length = n → (∀ z ∈ zs, S B2 z) → Q (.ref p) H2) → te σ H1 Q
section
variable {K : PySem.W.Frag} {σ : L2.St} {d c M : Addr} {B B0 H Hz : Hp} {xs : List V} {S : Rel} {te tf : TE} {E : XK} {i j n m : Nat}
theorem Dm.var [mo : Mo S] (fr : Hz M = none) (h : σ[j]? = some (some (.ref M))) (hx : ∀ z ∈ xs, S B z) : Dm (tVar j) σ d c M xs B B0 Hz S xs.length := fun B1 H1 e s ml Q q => ⟨.ref M, h, q M xs B1 H1 (.refl e.dl) ml fr rfl fun z hz => mo.mo s (hx z hz)⟩
theorem Dm.cat [mo : Mo S] (L : Dl B0 Hz d c) (h1 : Dm te σ d c M xs B B0 Hz S n) (h2 : Dm tf σ d c M xs B B0 Hz S m) (few : n + m ≤ 1000) : Dm (tOp (rCatS K) te tf) σ d c M xs B B0 Hz S (n + m) := fun B1 H1 e0 s ml Q q =>
  h1 B1 H1 e0 s ml _ fun p zs B2 H2 e m1 _ l1 s1 => h2 B2 H2 (e0.trans L e) (s.trans e.bb) (ml.ext e) _ fun p2 zs2 B3 H3 e2 m2 _ l2 s2 => by
    have m1 := m1.ext e2
    refine ⟨p, p2, zs, zs2, rfl, rfl, SqL.of m1.at_, SqL.of m2.at_, by rw [sizeLine_eq]; omega, fun u hu => ?_⟩
    obtain ⟨m3, e3⟩ := Ml.new (xs := zs ++ zs2) e2.dl hu
    refine q u _ B3 _ ((e.trans e0.dl e2).trans e0.dl e3) m3 (ExtD.old L ((e0.trans L e).trans L e2) hu) (by rw [List.length_append]; omega) fun z hz => ?_
    rcases List.mem_append.mp hz with h | h
    · exact mo.mo e2.bb (s1 z h)
    · exact s2 z h
theorem Dm.one [mo : Mo S] (L : Dl B0 Hz d c) (h : Dw te σ d c B S) : Dm (tLst (tCons te tNil)) σ d c M xs B B0 Hz S 1 := fun B1 H1 e0 s ml Q q =>
  h B1 H1 s e0.dl _ fun v B2 H2 e hv => ⟨by rw [sizeLine_eq]; show 1 ≤ _; omega, fun u hu => by
    obtain ⟨m3, e3⟩ := Ml.new (xs := [v]) e.dl hu
    exact q u _ B2 _ (e.trans e0.dl e3) m3 (ExtD.old L (e0.trans L e) hu) rfl fun z hz => by rw [List.mem_singleton.mp hz]; exact hv⟩
theorem Dm.oneIx [mo : Mo S] {r : Nat} {v : V} (L : Dl B0 Hz d c) (hj : σ[j]? = some (some (.ref M))) (hi : σ[i]? = some (some (.int (r : Int)))) (hv : xs[r]? = some v) (hx : ∀ z ∈ xs, S B z) : Dm (tLst (tCons (tOp (rIxL K) (tVar j) (tVar i)) tNil)) σ d c M xs B B0 Hz S 1 := fun B1 H1 e0 s ml Q q =>
  ⟨.ref M, hj, .int r, hi, M, xs, r, v, rfl, rfl, SqL.of ml.at_, atIn hv, by rw [sizeLine_eq]; show 1 ≤ _; omega, fun u hu => by
    obtain ⟨m3, e3⟩ := Ml.new (xs := [v]) e0.dl hu
    exact q u _ B1 _ e3 m3 (ExtD.old L e0 hu) rfl fun z hz => by rw [List.mem_singleton.mp hz]; exact mo.mo s (hx v (List.mem_of_getElem? hv))⟩
theorem Dm.slFrom [mo : Mo S] {r : Nat} (L : Dl B0 Hz d c) (hj : σ[j]? = some (some (.ref M))) (hi : σ[i]? = some (some (.int (r : Int)))) (hr : r ≤ xs.length) (hx : ∀ z ∈ xs, S B z) : Dm (L2.tSl (rSlL K) (tVar j) (tPart (tVar i)) tNoPart) σ d c M xs B B0 Hz S (xs.length - r) := fun B1 H1 e0 s ml Q q =>
  ⟨.ref M, hj, .int r, hi, r, rfl, M, xs, rfl, SqL.of ml.at_, fun u hu => by
    obtain ⟨m3, e3⟩ := Ml.new (xs := cutV xs (some (r : Int)) none) e0.dl hu
    refine q u _ B1 _ e3 m3 (ExtD.old L e0 hu) ?_ fun z hz => mo.mo s (hx z (List.mem_of_mem_drop (List.mem_of_mem_take hz)))
    unfold cutV
    rw [HT.sIx_none, HT.sIx_nat, List.length_take, List.length_drop, Nat.min_eq_left hr, Nat.min_self]⟩
theorem Dm.slTo [mo : Mo S] {r : Nat} (L : Dl B0 Hz d c) (hj : σ[j]? = some (some (.ref M))) (hi : σ[i]? = some (some (.int (r : Int)))) (hr : r ≤ xs.length) (hx : ∀ z ∈ xs, S B z) : Dm (L2.tSl (rSlL K) (tVar j) tNoPart (tPart (tVar i))) σ d c M xs B B0 Hz S r := fun B1 H1 e0 s ml Q q =>
  ⟨.ref M, hj, .int r, hi, r, rfl, M, xs, rfl, SqL.of ml.at_, fun u hu => by
    obtain ⟨m3, e3⟩ := Ml.new (xs := cutV xs none (some (r : Int))) e0.dl hu
    refine q u _ B1 _ e3 m3 (ExtD.old L e0 hu) ?_ fun z hz => mo.mo s (hx z (List.mem_of_mem_drop (List.mem_of_mem_take hz)))
    unfold cutV
    rw [HT.sIx_none, HT.sIx_nat, List.length_take, List.length_drop, Nat.min_eq_left hr]
    omega⟩
/-- hidden lists, one by one -/
def Dms (ta : TA) (σ : L2.St) (d c M : Addr) (xs : List V) (B B0 Hz : Hp) (S : Rel) (lo hi k : Nat) : Prop := ∀ B1 H1, ExtD d c B0 Hz B1 H1 → Same B B1 → Ml d c B1 H1 M xs → ∀ Q : List V → Hp → Prop,
  (∀ vs B2 H2, ExtD d c B1 H1 B2 H2 → vs.length = k → (∀ v ∈ vs, ∃ p zs, v = .ref p ∧ Ml d c B2 H2 p zs ∧ Hz p = none ∧ lo ≤ zs.length ∧ zs.length ≤ hi ∧ ∀ z ∈ zs, S B2 z) → Q vs H2) → ta σ H1 Q
theorem Dms.nil {lo hi : Nat} : Dms tNil σ d c M xs B B0 Hz S lo hi 0 := fun B1 H1 e s ml Q q => q [] B1 H1 (.refl e.dl) rfl fun v h => nomatch h
theorem Dms.cons [mo : Mo S] {tr : TA} {lo hi k : Nat} (L : Dl B0 Hz d c) (h : Dm te σ d c M xs B B0 Hz S n) (t : Dms tr σ d c M xs B B0 Hz S lo hi k) (l1 : lo ≤ n) (l2 : n ≤ hi) : Dms (tCons te tr) σ d c M xs B B0 Hz S lo hi (k + 1) := fun B1 H1 e0 s ml Q q =>
  h B1 H1 e0 s ml _ fun p zs B2 H2 e m1 fr ln sz => t B2 H2 (e0.trans L e) (s.trans e.bb) (ml.ext e) _ fun vs B3 H3 e2 lv hvs => q _ B3 H3 (e.trans e0.dl e2) (by simp [lv]) fun v hv => by
    rcases List.mem_cons.mp hv with rfl | hv
    · exact ⟨p, zs, rfl, m1.ext e2, fr, by omega, by omega, fun z hz => mo.mo e2.bb (sz z hz)⟩
    · exact hvs v hv
/-- one of some hidden lists -/
theorem c_ixHid {tr : TA} {lo hi k r : Nat} {B1 : Hp} {Q : VK} (e0 : ExtD d c B0 Hz B1 H) (s : Same B B1) (ml : Ml d c B1 H M xs) (h : Dms tr σ d c M xs B B0 Hz S lo hi k) (k1 : k ≤ 1000) (hi2 : σ[i]? = some (some (.int (r : Int)))) (hr : r < k)
    (q : ∀ p zs B2 H2, ExtD d c B1 H B2 H2 → Ml d c B2 H2 p zs → Hz p = none → lo ≤ zs.length → zs.length ≤ hi → (∀ z ∈ zs, S B2 z) → Q (.ref p) H2) : tOp (rIxL K) (tLst tr) (tVar i) σ H Q :=
  h B1 H e0 s ml _ fun vs B2 H2 e lv hvs => ⟨by rw [sizeLine_eq]; omega, fun u hu => by
    have hv : vs[r]? = some (vs[r]'(by omega)) := List.getElem?_eq_getElem (by omega)
    obtain ⟨p, zs, ep, mp, fr, l1, l2, sz⟩ := hvs _ (List.getElem_mem (show r < vs.length by omega))
    have e3 : ExtD d c B2 H2 B2 (upd H2 u (.lst vs)) := .of e.dl (.own e.bh hu)
    refine ⟨.int r, hi2, u, vs, r, vs[r]'(by omega), rfl, rfl, SqL.of upd_same, atIn hv, ?_⟩
    rw [ep]
    exact q p zs B2 _ (e.trans e0.dl e3) (mp.ext e3) fr l1 l2 sz⟩
end
end Wv

set_option Elab.async false
set_option linter.all false
set_option maxRecDepth 100000
set_option maxHeartbeats 1000000
/-! K30q: letters and rows as they are drawn. -/
namespace K30
open PySem PySem.Spec PyProof.Rows L2 Wb Wv Fm Ta
theorem word_ok {qs : Qs} {w : Wd} (h : WqOk qs w) : wordB qs (wordD w) = true := by
  rcases h with rfl | h
  · rfl
  · unfold wordB
    rw [Bool.or_eq_true]
    refine .inr ?_
    have len : w.length = qs.length := by rw [grow_row h, List.length_map]
    have pk := grow_picks _ w h
    show isRowD qs (-1) (.tuple (w.map .int)) = true
    unfold isRowD
    dsimp only
    rw [Bool.and_eq_true, decide_eq_true_eq, List.all_eq_true]
    refine ⟨by rw [List.length_map, len], ?_⟩
    rintro ⟨d, q⟩ hp
    obtain ⟨i, hi, e⟩ := List.mem_iff_getElem.mp hp
    rw [List.length_zip, List.length_map] at hi
    rw [List.getElem_zip] at e
    obtain ⟨e1, e2⟩ := Prod.mk.inj e
    rw [List.getElem_map] at e1
    have hq : (qs.map fun q => rng (-1) ((q.2 : Int) - -1).toNat)[i]? = some (rng (-1) ((q.2 : Int) - -1).toNat) := by
      rw [List.getElem?_map, List.getElem?_eq_getElem (by omega), e2]
      rfl
    obtain ⟨v, hv, hm⟩ := picks_at pk hq
    rw [List.getElem?_eq_getElem (by omega)] at hv
    have hv := Option.some.inj hv
    unfold rng at hm
    obtain ⟨k, hk, ek⟩ := List.mem_map.mp hm
    rw [List.mem_range] at hk
    rw [← e1, hv]
    show (decide ((-1 : Int) ≤ v) && decide (v ≤ (q.2 : Int) - 1)) = true
    rw [Bool.and_eq_true, decide_eq_true_eq, decide_eq_true_eq]
    omega
theorem lt_letter {qs : Qs} {l : Lt} (ok : LtOk l) (w : WqOk qs l.2.2) : letterB qs (ltD l) = true := by
  show (decide (0 ≤ l.1) && (decide (0 ≤ l.2.1) && wordB qs (wordD l.2.2))) = true
  rw [decide_eq_true ok.n0, decide_eq_true ok.e0, word_ok w]
  rfl
theorem sm_word {w : Wd} (h1 : w.length ≤ 3) (h2 : ∀ i ∈ w, i.natAbs ≤ 8) : Sm 1 3 (wordD w) := by
  show Sm 1 3 (.tuple (w.map .int))
  refine .tuple (k := 0) (W := 0) (fun x hx => ?_) (by rw [List.length_map]; omega)
  obtain ⟨i, hi, rfl⟩ := List.mem_map.mp hx
  have := h2 i hi
  exact .int (by omega)
theorem sm_lt {l : Lt} (ok : LtOk l) : Sm 3 12 (ltD l) := by
  have b1 : l.1.natAbs < 2 ^ 100 := by have h1 := ok.n0; have h2 := ok.nb; omega
  have b2 : l.2.1.natAbs < 2 ^ 100 := by have h1 := ok.e0; have h2 := ok.eb; omega
  exact (sm_tup3 (k := 1) (W := 3) (.int b1) (.int b2) (sm_word ok.wl ok.ws) (V := 12) (by decide)).mono (by decide) (Nat.le_refl _)
theorem tal_rows {x : List Lt} (few : x.length ≤ 9) (ok : ∀ l ∈ x, LtOk l) (pos : Pos x) : (∀ r ∈ tally x, Sm 3 111 (rwD r)) ∧ (tally x).length ≤ 9 ∧ (x ≠ [] → 1 ≤ (tally x).length) := by
  have ln : (tally x).length ≤ 9 := by
    unfold tally
    rw [List.length_map, (sortI_perm _).length_eq]
    have := nodup_len (nd_once (nums x)) (m := nums x) fun y hy => mem_once.mp hy
    have l2 : (nums x).length = x.length := by unfold nums; rw [List.length_map]
    omega
  refine ⟨fun r hr => ?_, ln, fun ne => ?_⟩
  · obtain ⟨n, hn, rfl⟩ := List.mem_map.mp hr
    have hn := mem_once.mp (mem_sortI.mp hn)
    have m : ∀ u ∈ sortW (once (Ta.wordsOf x n)), (n, last x n, u) ∈ x := fun u hu => mem_words.mp (mem_once.mp (mem_sortW.mp hu))
    have lw : (sortW (once (Ta.wordsOf x n))).length ≤ 9 := by
      have nd : ((sortW (once (Ta.wordsOf x n))).map fun u => ((n, last x n, u) : Lt)).Nodup := List.pairwise_map.mpr (((sortW_perm _).nodup_iff.mpr (nd_once _)).imp fun h e => h (by cases e; rfl))
      have := nodup_len nd fun l hl => by
        obtain ⟨u, hu, rfl⟩ := List.mem_map.mp hl
        exact m u hu
      rw [List.length_map] at this
      omega
    obtain ⟨u, hu⟩ := last_at pos hn
    have lo := ok _ hu
    have b1 : n.natAbs < 2 ^ 100 := by have h1 : 0 ≤ n := lo.n0; have h2 : n < 2 ^ 60 := lo.nb; omega
    have b2 : (last x n).natAbs < 2 ^ 100 := by have h1 : 0 ≤ last x n := lo.e0; have h2 : last x n < 2 ^ 60 := lo.eb; omega
    exact sm_tup3 (k := 2) (W := 36) (.int b1) (.int b2) (Sm.tuple (k := 1) (W := 3) (fun e he => by
      obtain ⟨u, hu, rfl⟩ := List.mem_map.mp he
      have := ok _ (m u hu)
      exact sm_word this.wl this.ws) (by rw [List.length_map]; show (sortW (once (Ta.wordsOf x n))).length * (3 + 1) ≤ 36; omega)) (by decide)
  · cases x with
    | nil => exact absurd rfl ne
    | cons l x =>
      have hm : l.1 ∈ sortI (once (nums (l :: x))) := mem_sortI.mpr (mem_once.mpr (List.mem_map.mpr ⟨l, List.mem_cons_self, rfl⟩))
      unfold tally
      rw [List.length_map]
      exact List.length_pos_of_mem hm
theorem Rv.isB {K : PySem.W.Frag} {B : Hp} {i j : Bool} : Rv (fun x y H Q => ∃ a b, x = .bl a ∧ y = .bl b ∧ Q (.bl (decide (a = b))) H) B (dat K (.bool i)) (dat K (.bool j)) (dat K (.bool (decide (i = j)))) := fun x y B1 H _ s2 hx hy Q q => ⟨i, j, dat_bl hx, dat_bl hy, q _ B1 H (.refl s2) (Dp.bl _)⟩
end K30

set_option Elab.async false
set_option linter.all false
set_option maxRecDepth 100000
set_option maxHeartbeats 400000
/-! K30n: the law itself. -/
namespace K30
open PySem PySem.Spec PyProof.Rows L2 Wb Wv Fm Ta
theorem allR_get : ∀ {Rs : List Rel} {B : Hp} {xs : List V} {i : Nat} {R : Rel} {v : V}, AllR Rs B xs → Rs[i]? = some R → xs[i]? = some v → R B v
  | _ :: _, _, _, 0, _, _, ⟨x, r, e, h, _⟩, h1, h2 => by
    subst e
    cases h1
    cases h2
    exact h
  | _ :: _, _, _, i + 1, _, _, ⟨x, r, e, _, t⟩, h1, h2 => by
    subst e
    exact allR_get (i := i) t (by simpa using h1) (by simpa using h2)
theorem De.cst2 {σ : L2.St} {B : Hp} {R : Rel} {v : V} [Mo R] (h : R B v) : De (tC v) σ B R := fun B1 H1 s1 s2 Q q => q v B1 H1 (.refl s2) (Mo.mo s1 h)
theorem s_forLE {K : PySem.W.Frag} {σ : L2.St} {H : Hp} {te : TE} {g : TG} {ts : TS} {D : Ends} (h : te σ H fun x H1 => ∃ a, x = .ref a ∧ (∃ xs, SqL K H1 a xs) ∧ tFor (fun _ H R => R (Itl K a) H) g ts D σ H1) : tFor (iList K te) g ts D σ H := h
theorem De.form {K : PySem.W.Frag} {C : Addr} {σ : L2.St} {B : Hp} {te : TE} {E : XK} {d : PyData} (h : De te σ B (dat K d)) : De (tMake C (spIns C ["questions"]) [] E (tCons te tNil)) σ B (formD K C d) := De.make (fs := ["questions"]) (Rs := [dat K d]) (.cons h .nil) rfl
theorem De.tal {K : PySem.W.Frag} {CF CT : Addr} {σ : L2.St} {B : Hp} {te tf : TE} {E : XK} {b : Bool} {f r : PyData} (h : De te σ B (valR K CF b f)) (h2 : De tf σ B (dat K r)) : De (tMake CT (spIns CT ["form", "rows"]) [] E (tCons te (tCons tf tNil))) σ B (talR K CF CT (b, f, r)) := De.make (fs := ["form", "rows"]) (Rs := [valR K CF b f, dat K r]) (.cons h (.cons h2 .nil)) rfl
/-- rows that may stand in the list -/
def RP (j : Nat) (x : PyData) : Prop := Sm (3 + j) (if j = 0 then 111 else if j = 1 then 292 else 654) x ∧ ∀ es, x = .tuple es → es.length ≤ 3 + j
theorem RP.up {j : Nat} {x : PyData} (h : RP j x) (hj : j ≤ 1) : RP (j + 1) x := by
  refine ⟨h.1.mono (by omega) ?_, fun es e => Nat.le_trans (h.2 es e) (by omega)⟩
  rcases (show j = 0 ∨ j = 1 by omega) with rfl | rfl <;> decide
theorem RP.thing {x : PyData} (h : Sm 3 10 x) (hl : ∀ es, x = .tuple es → es.length ≤ 3) (j : Nat) : RP j x := by
  refine ⟨h.mono (by omega) ?_, fun es e => Nat.le_trans (hl es e) (by omega)⟩
  split
  · decide
  · split <;> decide
theorem RP.bent {j : Nat} {n : Nat} {x : PyData} (hj : j ≤ 1) (hn : n ≤ 3 + j) (h : Bent (3 + j) (if j = 0 then 111 else if j = 1 then 292 else 654) n x) : RP (j + 1) x := by
  obtain ⟨h1, h2⟩ := h
  refine ⟨h1.mono (by omega) ?_, fun es e => Nat.le_trans (h2 es e) (by omega)⟩
  rcases (show j = 0 ∨ j = 1 by omega) with rfl | rfl <;> decide
end K30

set_option Elab.async false
set_option linter.all false
set_option maxRecDepth 100000
set_option maxHeartbeats 400000
/-! K30u: for the law's last tests. -/
namespace K30
open PySem PySem.Spec PyProof.Rows L2 Wb Wv Fm Ta
mutual
theorem eqv_depth : ∀ (x y : PyData), PyData.eqv x y = true → x.depth = y.depth
  | .list xs, .list ys, h => by
    simp only [PyData.eqv] at h
    simp only [PyData.depth, eqvAll_depth xs ys h]
  | .tuple xs, .tuple ys, h => by
    simp only [PyData.eqv] at h
    simp only [PyData.depth, eqvAll_depth xs ys h]
  | .none, .none, _ => rfl
  | .bool _, .bool _, _ => by simp [PyData.depth]
  | .bool _, .int _, _ => by simp [PyData.depth]
  | .int _, .bool _, _ => by simp [PyData.depth]
  | .int _, .int _, _ => by simp [PyData.depth]
  | .str _, .str _, _ => by simp [PyData.depth]
  | .dict _, .dict _, h => by simp [PyData.eqv] at h
  | .none, .bool _, h | .none, .int _, h | .none, .str _, h | .none, .list _, h | .none, .tuple _, h | .none, .dict _, h => by simp [PyData.eqv] at h
  | .bool _, .none, h | .bool _, .str _, h | .bool _, .list _, h | .bool _, .tuple _, h | .bool _, .dict _, h => by simp [PyData.eqv] at h
  | .int _, .none, h | .int _, .str _, h | .int _, .list _, h | .int _, .tuple _, h | .int _, .dict _, h => by simp [PyData.eqv] at h
  | .str _, .none, h | .str _, .bool _, h | .str _, .int _, h | .str _, .list _, h | .str _, .tuple _, h | .str _, .dict _, h => by simp [PyData.eqv] at h
  | .list _, .none, h | .list _, .bool _, h | .list _, .int _, h | .list _, .str _, h | .list _, .tuple _, h | .list _, .dict _, h => by simp [PyData.eqv] at h
  | .tuple _, .none, h | .tuple _, .bool _, h | .tuple _, .int _, h | .tuple _, .str _, h | .tuple _, .list _, h | .tuple _, .dict _, h => by simp [PyData.eqv] at h
  | .dict _, .none, h | .dict _, .bool _, h | .dict _, .int _, h | .dict _, .str _, h | .dict _, .list _, h | .dict _, .tuple _, h => by simp [PyData.eqv] at h
theorem eqvAll_depth : ∀ (xs ys : List PyData), PyData.eqvAll xs ys = true → PyData.depthAll xs = PyData.depthAll ys
  | [], [], _ => rfl
  | x :: xs, y :: ys, h => by
    simp only [PyData.eqvAll, Bool.and_eq_true] at h
    simp only [PyData.depthAll, eqv_depth x y h.1, eqvAll_depth xs ys h.2]
  | [], _ :: _, h => by simp [PyData.eqvAll] at h
  | _ :: _, [], h => by simp [PyData.eqvAll] at h
end
theorem eqv_twice (r : PyData) : PyData.eqv r (.tuple [r, r]) = false := by
  rw [Bool.eq_false_iff]
  intro h
  have := eqv_depth _ _ h
  simp only [PyData.depth, PyData.depthAll] at this
  omega
theorem fok_fault {qs : Qs} (fo : FOk qs) : faultD (qsD qs) = .none := by
  have hl : 1 ≤ (qs.map encQ).length ∧ (qs.map encQ).length ≤ 8 := by
    rw [List.length_map]
    have := fo.few
    exact ⟨fo.pos, by omega⟩
  have ok : ∀ q ∈ qs, okP (encQ q) = true := fun q hq => by
    show (isNmS q.1 && isInD (.int (q.2 : Int)) 2 9) = true
    have n := fo.nm q.1 (List.mem_map.mpr ⟨q, hq, rfl⟩)
    have t := fo.two q hq
    rw [Bool.and_eq_true]
    refine ⟨?_, ?_⟩
    · unfold isNmS
      rw [n.ascii, n.alpha (by decide), n.lower (by decide), decide_eq_true ⟨n.1, n.2.1⟩]
      rfl
    · show (decide ((2 : Int) ≤ (q.2 : Int)) && decide ((q.2 : Int) ≤ 9)) = true
      rw [Bool.and_eq_true, decide_eq_true_eq, decide_eq_true_eq]
      omega
  have fn : faultN (qs.map encQ) = none := fault_none fun j hj => by
    rw [List.length_map] at hj
    cases j with
    | zero =>
      rw [okAt_zero (d := encQ qs[0]) (by rw [List.getElem?_map, List.getElem?_eq_getElem hj]; rfl)]
      exact ok _ (List.getElem_mem hj)
    | succ i =>
      rw [okAt_succ (p := encQ (qs[i]'(by omega))) (d := encQ qs[i + 1]) (by rw [List.getElem?_map, List.getElem?_eq_getElem (by omega)]; rfl) (by rw [List.getElem?_map, List.getElem?_eq_getElem hj]; rfl), ok _ (List.getElem_mem hj), Bool.true_and, decide_eq_true_eq]
      have asc := fo.asc
      unfold Fm.names at asc
      rw [List.pairwise_map, List.pairwise_iff_getElem] at asc
      exact asc i (i + 1) (by omega) hj (by omega)
  show (if 1 ≤ (qs.map encQ).length ∧ (qs.map encQ).length ≤ 8 then (match faultN (qs.map encQ) with | some i => PyData.int (i : Int) | none => .none) else .int (-1)) = .none
  rw [if_pos hl, fn]
theorem rows_shw {qs : Qs} {k W : Nat} {r : PyData} (h : Sm k W r) (hW : W ≤ 8000) : Shw (rowsFault qs r) := by
  have m1 : Shw (.int (-1)) := (tb_int (by decide +kernel)).shw
  have big : ∀ i : Nat, i < 2 ^ 63 → Shw (.int (i : Int)) := fun i hi => (tb_int (by
    have : (2 : Nat) ^ 63 ≤ 2 ^ 1900 := Nat.pow_le_pow_right (by decide) (by decide)
    omega)).shw
  cases r with
  | tuple ds =>
    show Shw (match faultA (rowB qs) ltR ds with | some i => PyData.int (i : Int) | none => .none)
    have few : ds.length ≤ 8000 := by
      obtain ⟨j, w, _, _, hl⟩ := h.tupInv
      have : ds.length * 1 ≤ ds.length * (w + 1) := Nat.mul_le_mul_left _ (by omega)
      omega
    split
    · rename_i i hi
      have := List.mem_range.mp (List.mem_of_find?_eq_some hi)
      exact big i (by omega)
    · exact tb_none.shw
  | _ => exact m1
theorem tv_shw {t : TV} {k W : Nat} (h : ∀ b f r, t = .tal b f r → Sm k W r) (hW : W ≤ 8000) : Shw (tvFault t) := by
  cases t with
  | tal b f r =>
    show Shw (if isNoneD (valFault b f) then rowsFault (qsOf f) r else .int (-1))
    split
    · exact rows_shw (h b f r rfl) hW
    · exact (tb_int (by decide +kernel)).shw
  | dat d => exact (tb_int (i := -1) (by decide +kernel)).shw
theorem eqTV_self {a : Bool × PyData × PyData} {k W k2 W2 : Nat} (h1 : Sm k W a.2.1) (h2 : Sm k2 W2 a.2.2) : eqTV a (.tal a.1 a.2.1 a.2.2) = true := by
  show (eqV a.1 a.2.1 a.1 a.2.1 && PyData.eqv a.2.2 a.2.2) = true
  rw [SeqAt.eqv_refl _ h2.lay, Bool.and_true]
  unfold eqV
  rw [SeqAt.eqv_refl _ h1.lay]
  cases a.1 <;> rfl
/-- what may stand as the tally's form -/
def FormP (K : PySem.W.Frag) (C : Addr) : Rel := fun B v => ∃ b f, valR K C b f B v ∧ Sm 4 2000 f ∧ isNoneD (valFault b f) = false ∧ (b = false → PyData.eqv f (.int 7) = false)
instance {K : PySem.W.Frag} {C : Addr} : Mo (FormP K C) := ⟨fun s ⟨b, f, h, r⟩ => ⟨b, f, Mo.mo s h, r⟩⟩
theorem s_parWE {ta : TA} {R S : Rel} {σ : L2.St} {d c : Addr} {B H : Hp} {D : Ends} {i j : Nat} (L : Dl B H d c) (h : Dwa ta σ d c B [R, S]) (k : ∀ u v B' H', ExtD d c B H B' H' → R B' u → S B' v → D.nx ((σ.set i (some u)).set j (some v)) H') : tPar i j ta D σ H := h B H (Same.refl _) L _ fun vs B' H' e hv => by
  obtain ⟨a, r, rfl, h1, b, r', rfl, h2, h3⟩ := hv
  have h3 : r' = [] := h3
  subst h3
  exact ⟨a, b, rfl, k a b B' H' e h1 h2⟩
theorem sm_qs {qs : Qs} (fo : FOk qs) : Sm 4 2000 (qsD qs) ∧ Sm 4 2000 (.list (qs.map encQ)) := by
  have e : ∀ x ∈ qs.map encQ, Sm 3 20 x := fun x hx => by
    obtain ⟨q, hq, rfl⟩ := List.mem_map.mp hx
    have n := fo.nm q.1 (List.mem_map.mpr ⟨q, hq, rfl⟩)
    have t := fo.two q hq
    exact sm_tup2 (k := 2) (W := 8) (.str n.nmk) (.int (by omega)) (by decide)
  have l : (qs.map encQ).length ≤ 3 := by rw [List.length_map]; exact fo.few
  exact ⟨sm_tuple e 3 l _ (by decide), sm_list e 3 l _ (by decide)⟩
end K30

set_option Elab.async false
set_option linter.all false
set_option maxRecDepth 100000
set_option maxHeartbeats 400000
/-! K30r: the law itself. -/
namespace K30
open PySem PySem.Spec PyProof.Rows L2 Wb Wv Fm Ta
section
variable {P : Program} {w : World} {K : PySem.W.Frag} {mg : Str → Option Value} {base : Heap} {C_Form C_Tally C_InvalidForm C_InvalidSize C_InvalidSheets C_BlankError : Addr} {t_MOST_QUESTIONS : Tok}
theorem kw_needLetter : Kw "need_letter" s_needLetter ["form", "value"] ["value", "form"] [1, 0] := ⟨rfl, fun _ _ _ _ _ _ _ ws hl => match ws, hl with | [_, _], _ => .of_eq rfl⟩
theorem kw_isTally : Kw "is_tally" s_isTally ["value"] ["value"] [0] := ⟨rfl, fun _ _ _ _ _ _ _ ws hl => match ws, hl with | [_], _ => .of_eq rfl⟩
theorem kw_needTally : Kw "need_tally" s_needTally ["value"] ["value"] [0] := ⟨rfl, fun _ _ _ _ _ _ _ ws hl => match ws, hl with | [_], _ => .of_eq rfl⟩
theorem sc_law : FnScope ["script", "deal", "turn", "questions", "form", "letters", "value", "shown", "rows", "spoil", "at", "way", "due", "tally"] ["script"] (defScope s_law) := ⟨rfl, rfl, rfl, by decide +kernel, rfl, by decide +kernel, by decide +kernel⟩
theorem ok_law (D : Def K mg "law" s_law ["script"]) (C_source : Cal P w K mg base CX0 1 "_law_source" s_source ["script"] (spSource K)) (n_range : mg "range" = none) (C_lform : Cal P w K mg base CX0 5 "_law_form" s_lform ["deal", "most"] (sp_lform K)) (K_Form : CalC P w K mg base "Form" C_Form ["questions"]) (C_lletters : Cal P w K mg base CX0 3 "_law_letters" s_lletters ["deal", "questions", "many"] (sp_lletters K)) (C_any : Cal P w K mg base CX0 1 "_law_any" s_any ["deal", "bound"] spAny) (C_bent : Cal P w K mg base CX0 4 "_law_bent" s_bent ["deal", "row"] (sp_bent K)) (C_thing : Cal P w K mg base CX0 3 "_law_thing" s_thing ["deal"] (sp_thing K)) (n_repr : mg "repr" = none) (C_lheard : Cal P w K mg base CX0 6 "_law_heard" s_lheard ["form", "value"] (sp_lheard K C_Form)) (C_lisLetter : Cal P w K mg base CX0 2 "_law_is_letter" s_lisLetter ["questions", "value"] (sp_lisLetter K)) (C_needLetter : Cal P w K mg base (L2.CX P w) 5 "need_letter" s_needLetter ["form", "value"] (sp_needLetter K C_Form C_InvalidSize)) (C_due : Cal P w K mg base CX0 2 "_law_due" s_due ["letters"] (sp_due K)) (n_list : mg "list" = none) (C_of : Cal P w K mg base CX0 2 "_law_of" s_of ["deal", "some"] (spOf K)) (n_len : mg "len" = none) (n_tuple : mg "tuple" = none) (n_isinstance : mg "isinstance" = none) (C_wrong : Cal P w K mg base CX0 3 "_law_wrong" s_wrong ["questions", "rows"] (sp_wrong K)) (K_Tally : CalC P w K mg base "Tally" C_Tally ["form", "rows"]) (C_told : Cal P w K mg base CX0 9 "_law_told" s_told ["value"] (sp_told K C_Form C_Tally)) (C_isTally : Cal P w K mg base CX0 8 "is_tally" s_isTally ["value"] (sp_isTally K C_Form C_Tally)) (C_needTally : Cal P w K mg base (L2.CX P w) 8 "need_tally" s_needTally ["value"] (sp_needTally K C_Form C_Tally C_InvalidSheets)) (KR_Tally : CalCR P w K mg base "Tally" C_Tally "form" "rows") (E_Tally : CalE P w K mg base 2 C_Tally (sp_eqTally K C_Form C_Tally)) (E_Form : CalE P w K mg base 1 C_Form (sp_eqForm K C_Form)) : CalG P w K mg base CX0 10 "law" s_law ["script"] (Wb.spLaw K) := by
  refine D.okG sc_law (fun vs H Q E h => ?_) (fun cdv f A outer s H vs Q E gd hr h => ?_)
  · obtain ⟨a, ns, rfl, _⟩ := h
    rfl
  obtain ⟨a, ns, rfl, hs, few, k⟩ := h
  refine ⟨_, (pss_cons (ps_set (i := 1) sc_law.nd rfl (Or.inl rfl) (pe_cal C_source (hr.mono (by decide)) (by rfl) pass0 (pa_cons (pv 0) pa_nil)))
    (pss_cons (ps_for PassesOwn.leaving rfl (pi_range1 rfl n_range (pa_cons pe_int pa_nil)) (pg_name (i := 2) sc_law.nd rfl (Or.inl rfl)) (pss_cons (ps_set (i := 3) sc_law.nd rfl (Or.inl rfl) (pe_cal C_lform (hr.mono (by decide)) (by rfl) pass0 (pa_cons (pv 1) (pa_cons pe_int pa_nil))))
      (pss_cons (ps_par (i := 4) (j := 5) rfl sc_law.nd rfl rfl (by decide) rfl rfl (pa_cons (pe_calC K_Form hr (by decide) (by rfl) (pa_cons (pv 3) pa_nil)) (pa_cons (pe_cal C_lletters (hr.mono (by decide)) (by rfl) pass0 (pa_cons (pv 1) (pa_cons (pv 3) (pa_cons (pe_op op_add pe_int (pe_cal C_any (hr.mono (by decide)) (by rfl) pass0 (pa_cons (pv 1) (pa_cons pe_int pa_nil)))) pa_nil)))) pa_nil)) (by rfl))
      (pss_cons (ps_for PassesOwn.leaving rfl (pi_list (pe_lst (pa_cons (pe_ix ix_list (pv 5) pe_int (fun _ _ => rfl)) (pa_cons (pe_cal C_bent (hr.mono (by decide)) (by rfl) pass0 (pa_cons (pv 1) (pa_cons (pe_ix ix_list (pv 5) pe_int (fun _ _ => rfl)) pa_nil))) (pa_cons (pe_cal C_bent (hr.mono (by decide)) (by rfl) pass0 (pa_cons (pv 1) (pa_cons (pe_ix ix_list (pv 5) (pe_un un_neg pe_int) (fun _ _ => rfl)) pa_nil))) (pa_cons (pe_cal C_thing (hr.mono (by decide)) (by rfl) pass0 (pa_cons (pv 1) pa_nil)) pa_nil)))))) (pg_name (i := 6) sc_law.nd rfl (Or.inl rfl)) (pss_cons (ps_set (i := 7) sc_law.nd rfl (Or.inl rfl) (pe_callB (call_show gd hr.units) (by rfl) n_repr (by decide +kernel) (pa_cons (pv 6) pa_nil)))
        (pss_one (ps_if (PW.pt (pw_or (pt_cmpR (op_neD hr.units) (pe_cal C_lheard (hr.mono (by decide)) (by rfl) pass0 (pa_cons (pv 4) (pa_cons (pv 6) pa_nil))) (pe_ifExp (pt_val (pe_cal C_lisLetter (hr.mono (by decide)) (by rfl) pass0 (pa_cons (pv 3) (pa_cons (pv 6) pa_nil)))) pe_bl pe_str) (nomark _)) (pw_or1 (pt_cmpR op_ne (pe_callB (call_show gd hr.units) (by rfl) n_repr (by decide +kernel) (pa_cons (pv 6) pa_nil)) (pv 7) (nomark _))))) (pss_one (ps_ret pe_bl)) pss_nil))))
      (pss_cons (ps_if (pt_cmpR op_notN (pe_calK C_needLetter.quiet (hr.mono (by decide)) (by rfl) pass0 kw_needLetter (pk_cons (pe_ix ix_list (pv 5) pe_int (fun _ _ => rfl)) (pk_cons (pv 4) pk_nil))) pe_non (nomark _)) (pss_one (ps_ret pe_bl)) pss_nil)
      (pss_cons (ps_set (i := 8) sc_law.nd rfl (Or.inl rfl) (pe_callTy call_list_of (by rfl) n_list (by decide +kernel) (pa_cons (pe_cal C_due (hr.mono (by decide)) (by rfl) pass0 (pa_cons (pv 5) pa_nil)) pa_nil)))
      (pss_cons (ps_for PassesOwn.leaving rfl (pi_range1 rfl n_range (pa_cons (pe_cal C_of (hr.mono (by decide)) (by rfl) pass0 (pa_cons (pv 1) (pa_cons (pe_lst (pa_cons pe_int (pa_cons pe_int (pa_cons pe_int (pa_cons pe_int pa_nil))))) pa_nil))) pa_nil)) (pg_name (i := 9) sc_law.nd rfl (Or.inl rfl)) (pss_cons (ps_par (i := 10) (j := 11) rfl sc_law.nd rfl rfl (by decide) rfl rfl (pa_cons (pe_cal C_any (hr.mono (by decide)) (by rfl) pass0 (pa_cons (pv 1) (pa_cons (pe_callB call_len (by rfl) n_len (by decide +kernel) (pa_cons (pv 8) pa_nil)) pa_nil))) (pa_cons (pe_cal C_any (hr.mono (by decide)) (by rfl) pass0 (pa_cons (pv 1) (pa_cons pe_int pa_nil))) pa_nil)) (by rfl))
        (pss_cons (ps_if (PW.pt (pw_and (pt_cmpR op_lt (pv 11) pe_int (nomark _)) (pw_and (pt_val (pe_callB call_isi (by rfl) n_isinstance (by decide +kernel) (pa_cons (pe_ix ix_list (pv 8) (pv 10) (fun _ _ => rfl)) (pa_cons (pe_bltn (by rfl) n_tuple (by decide +kernel) (show RelV (.ty "tuple") (.type "tuple") from rfl)) pa_nil)))) (pw_and1 (pt_cmpR (op_neD hr.units) (pe_ix ix_list (pv 8) (pv 10) (fun _ _ => rfl)) (pe_tup pa_nil) (nomark _)))))) (pss_one (ps_asg (pe_cal C_bent (hr.mono (by decide)) (by rfl) pass0 (pa_cons (pv 1) (pa_cons (pe_ix ix_list (pv 8) (pv 10) (fun _ _ => rfl)) pa_nil))) (pg_sub (pv 8) (pv 10) set_list))) pss_nil)
        (pss_one (ps_set (i := 8) sc_law.nd rfl (Or.inl rfl) (pe_ix ix_list (pe_lst (pa_cons (pv 8) (pa_cons (pv 8) (pa_cons (pv 8) (pa_cons (pe_op op_catS (pv 8) (pe_lst (pa_cons (pe_ix ix_list (pv 8) (pv 10) (fun _ _ => rfl)) pa_nil))) (pa_cons (pe_op op_catS (pe_slice sl_list (pv 8) (po_some (pv 10)) po_none) (pe_slice sl_list (pv 8) po_none (po_some (pv 10)))) (pa_cons (pe_op op_catS (pe_op op_catS (pe_slice sl_list (pv 8) po_none (po_some (pv 10))) (pe_lst (pa_cons (pe_cal C_thing (hr.mono (by decide)) (by rfl) pass0 (pa_cons (pv 1) pa_nil)) pa_nil))) (pe_slice sl_list (pv 8) (po_some (pv 10)) po_none)) pa_nil))))))) (pv 11) (fun _ _ => rfl)))))))
      (pss_cons (ps_set (i := 8) sc_law.nd rfl (Or.inl rfl) (pe_cal C_of (hr.mono (by decide)) (by rfl) pass0 (pa_cons (pv 1) (pa_cons (pe_lst (pa_cons (pe_callTy call_tuple_of (by rfl) n_tuple (by decide +kernel) (pa_cons (pv 8) pa_nil)) (pa_cons (pe_callTy call_tuple_of (by rfl) n_tuple (by decide +kernel) (pa_cons (pv 8) pa_nil)) (pa_cons (pe_callTy call_tuple_of (by rfl) n_tuple (by decide +kernel) (pa_cons (pv 8) pa_nil)) (pa_cons (pe_callTy call_tuple_of (by rfl) n_tuple (by decide +kernel) (pa_cons (pv 8) pa_nil)) (pa_cons (pv 8) (pa_cons (pe_cal C_thing (hr.mono (by decide)) (by rfl) pass0 (pa_cons (pv 1) pa_nil)) pa_nil))))))) pa_nil))))
      (pss_cons (ps_set (i := 12) sc_law.nd rfl (Or.inl rfl) (pe_cal C_wrong (hr.mono (by decide)) (by rfl) pass0 (pa_cons (pv 3) (pa_cons (pv 8) pa_nil))))
      (pss_cons (ps_if (pt_cmpR op_eq (pe_cal C_any (hr.mono (by decide)) (by rfl) pass0 (pa_cons (pv 1) (pa_cons pe_int pa_nil))) pe_int (nomark _)) (pss_one (ps_par (i := 4) (j := 12) rfl sc_law.nd rfl rfl (by decide) rfl rfl (pa_cons (pe_cal C_of (hr.mono (by decide)) (by rfl) pass0 (pa_cons (pv 1) (pa_cons (pe_lst (pa_cons (pv 3) (pa_cons pe_non (pa_cons (pe_calC K_Form hr (by decide) (by rfl) (pa_cons (pe_tup pa_nil) pa_nil)) (pa_cons (pe_calC K_Form hr (by decide) (by rfl) (pa_cons (pe_callTy call_list_of (by rfl) n_list (by decide +kernel) (pa_cons (pv 3) pa_nil)) pa_nil)) pa_nil))))) pa_nil))) (pa_cons (pe_op op_sub pe_int pe_int) pa_nil)) (by rfl))) pss_nil)
      (pss_cons (ps_set (i := 13) sc_law.nd rfl (Or.inl rfl) (pe_calC K_Tally hr (by decide) (by rfl) (pa_cons (pv 4) (pa_cons (pv 8) pa_nil))))
      (pss_cons (ps_if (PW.pt (pw_or (pt_cmpR op_ne (pe_callB (call_show gd hr.units) (by rfl) n_repr (by decide +kernel) (pa_cons (pe_cal C_told (hr.mono (by decide)) (by rfl) pass0 (pa_cons (pv 13) pa_nil)) pa_nil)) (pe_callB (call_show gd hr.units) (by rfl) n_repr (by decide +kernel) (pa_cons (pv 12) pa_nil)) (nomark _)) (pw_or1 (pt_cmpR op_ne (pe_callB (call_show gd hr.units) (by rfl) n_repr (by decide +kernel) (pa_cons (pe_lst (pa_cons (pe_cal C_isTally (hr.mono (by decide)) (by rfl) pass0 (pa_cons (pv 13) pa_nil)) (pa_cons (pe_calK C_isTally (hr.mono (by decide)) (by rfl) pass0 kw_isTally (pk_cons (pv 13) pk_nil)) pa_nil))) pa_nil)) (pe_callB (call_show gd hr.units) (by rfl) n_repr (by decide +kernel) (pa_cons (pe_lst (pa_cons (pe_cmpR op_isN (pv 12) pe_non (nomark _)) (pa_cons (pe_cmpR op_isN (pv 12) pe_non (nomark _)) pa_nil))) pa_nil)) (nomark _))))) (pss_one (ps_ret pe_bl)) pss_nil)
      (pss_cons (ps_if (PW.pt (pw_or (PW.pt (pw_and (pt_cmpR op_isN (pv 12) pe_non (nomark _)) (pw_and1 (pt_cmpR op_notN (pe_calK C_needTally.quiet (hr.mono (by decide)) (by rfl) pass0 kw_needTally (pk_cons (pv 13) pk_nil)) pe_non (nomark _))))) (pw_or (pt_not (pt_cmpR (op_eqC E_Tally (hr.mono (by decide))) (pe_calCR KR_Tally hr (by decide) (by rfl) (pk_cons (pv 8) (pk_cons (pv 4) pk_nil))) (pv 13) (nomark _))) (pw_or1 (pt_cmpR (op_eqY E_Tally (hr.mono (by decide))) (pv 13) (pv 8) (nomark _)))))) (pss_one (ps_ret pe_bl)) pss_nil)
      (pss_one (ps_if (PW.pt (pw_or (pt_cmpR (op_eqC E_Tally (hr.mono (by decide))) (pv 13) (pe_calC K_Tally hr (by decide) (by rfl) (pa_cons (pv 4) (pa_cons (pe_tup (pa_cons (pv 8) (pa_cons (pv 8) pa_nil))) pa_nil))) (nomark _)) (pw_or (pt_cmpR (op_eqC E_Tally (hr.mono (by decide))) (pv 13) (pe_calC K_Tally hr (by decide) (by rfl) (pa_cons pe_int (pa_cons (pv 8) pa_nil))) (nomark _)) (pw_or (pt_cmpR op_ne (pe_callB (call_show gd hr.units) (by rfl) n_repr (by decide +kernel) (pa_cons (pe_fld (pv 13) rfl) pa_nil)) (pe_callB (call_show gd hr.units) (by rfl) n_repr (by decide +kernel) (pa_cons (pv 8) pa_nil)) (nomark _)) (pw_or1 (pt_not (pt_cmpR (op_eqM E_Form (hr.mono (by decide)) hr.units) (pe_fld (pv 13) rfl) (pv 4) (nomark _)))))))) (pss_one (ps_ret pe_bl)) pss_nil)))))))))))))))
    (pss_cons (ps_set (i := 6) sc_law.nd rfl (Or.inl rfl) (pe_cal C_thing (hr.mono (by decide)) (by rfl) pass0 (pa_cons (pv 1) pa_nil)))
    (pss_one (ps_ret (pe_and (pe_cmpR (op_eqD hr.units) (pe_cal C_told (hr.mono (by decide)) (by rfl) pass0 (pa_cons (pv 6) pa_nil)) (pe_op op_sub pe_int pe_int) (nomark _)) (pe_one (pe_cmpR op_is_bl (pe_cal C_isTally (hr.mono (by decide)) (by rfl) pass0 (pa_cons (pv 6) pa_nil)) pe_bl (nomark _))))))))), ?_⟩
  have line := sizeLine_eq
  refine ⟨_, rfl, a, ns, rfl, hs, few, fun d c H1 _ _ D1 _ => ?_⟩
  clear hs few
  have L : Dl (off H1 d c) H1 d c := ⟨D1, Same.refl _⟩
  generalize off H1 d c = B1 at L
  refine s_forD L (.refl L) (Di.rng (K := K) (n := 4) .int (by decide)) (fun i σ B H => ∃ (v2 v3 v4 v5 v6 v7 v8 v9 v10 v11 v12 v13 : Option V), σ = [some (.ref a), some (.ref d), v2, v3, v4, v5, v6, v7, v8, v9, v10, v11, v12, v13]) (fun B1 H1 e => ⟨_, _, _, _, _, _, _, _, _, _, _, _, rfl⟩) ?_ ?_
  · rintro Bz i R v σ' Bc Hc B0 H0 sB hR ec sc ⟨v2, v3, v4, v5, v6, v7, v8, v9, v10, v11, v12, v13, rfl⟩ en hv
    have eD0 := ec.trans L en
    have sZ := sc.trans en.bb
    change tSeq _ _ _ [some (.ref a), some (.ref d), some v, v3, v4, v5, v6, v7, v8, v9, v10, v11, v12, v13] H0
    refine s_w eD0.dl (Dw.def1 () rfl (.one .int) trivial) fun u3 B2 H2 e2 h3 => ?_
    obtain ⟨_, ⟨ds, rfl, qs, rfl, fo⟩, h3⟩ := h3
    have h3 : dat K (qsD qs) B2 u3 := h3
    have eD2 := eD0.trans L e2
    have q8 : qs.length ≤ 8 := Nat.le_trans fo.few (by decide)
    change tSeq _ _ _ [some (.ref a), some (.ref d), some v, some u3, v4, v5, v6, v7, v8, v9, v10, v11, v12, v13] H2
    refine s_parR (d_ev eD2.dl (De.form (K := K) (C := C_Form) (.var h3 rfl)) fun u4 B3 H3 e3 h4 => ?_)
    have eD3 := eD2.trans L e3
    have h3 := Mo.mo e3.bb h3
    have dw : Dw (tCall (sp_lletters K) [] E0 (tCons (tVar 1) (tCons (tVar 3) (tCons (tOp (rI0 fun i j => V.int (i + j)) (tC (.int 1)) (tCall spAny [] E0 (tCons (tVar 1) (tCons (tC (.int 9)) tNil)))) tNil)))) [some (.ref a), some (.ref d), some v, some u3, v4, v5, v6, v7, v8, v9, v10, v11, v12, v13] d c B3 (datP K fun x => ∃ ls : List Lt, x = .list (ls.map ltD) ∧ LsOk qs ls ∧ 1 ≤ ls.length ∧ ls.length ≤ 9) := by
      refine Dw.def rfl (.cons (.of (.var h3 rfl)) (.one (Dw.op Dw.int (Dw.any (K := K) rfl .int (by decide) (by decide)) fun _ => Rv.intP))) fun B vs hv => ?_
      obtain ⟨x, r, rfl, hx, y, r', rfl, ⟨j, ⟨i1, i2, hi1, hi2, hj⟩, hy⟩, hr⟩ := hv
      subst hy
      have hr : r' = [] := hr
      subst hr
      exact ⟨(qs, j), ⟨x, _, rfl, hx, _, [], rfl, .int _, rfl⟩, ⟨fo, (by show 0 ≤ j; omega), (by show j ≤ 12; omega)⟩, fun _ v ⟨y, ⟨ls, e, lo, ln⟩, h⟩ => ⟨y, ⟨ls, e, lo, (by have ln : (ls.length : Int) = j := ln; omega), (by have ln : (ls.length : Int) = j := ln; omega)⟩, h⟩⟩
    refine dw B3 H3 (Same.refl _) eD3.dl _ fun u5 B4 H4 e4 h5 => ?_
    clear dw
    obtain ⟨_, ⟨ls, rfl, ⟨_, lok⟩, l1, l9⟩, h5⟩ := h5
    have eD4 := eD3.trans L e4
    have h3 := Mo.mo e4.bb h3
    have h4 := Mo.mo e4.bb h4
    change tSeq _ _ _ [some (.ref a), some (.ref d), some v, some u3, some u4, some u5, v6, v7, v8, v9, v10, v11, v12, v13] H4
    obtain ⟨l0, lr, el⟩ : ∃ l0 lr, ls = l0 :: lr := by
      cases ls with
      | nil => cases l1
      | cons x r => exact ⟨x, r, rfl⟩
    obtain ⟨ini, lz, ez⟩ : ∃ ini lz, ls = ini ++ [lz] := by
      rcases List.eq_nil_or_concat ls with e | ⟨i, z, e⟩
      · rw [e] at l1
        cases l1
      · exact ⟨i, z, by rw [e, List.concat_eq_append]⟩
    have ok0 := lok l0 (by rw [el]; exact List.mem_cons_self)
    have okz := lok lz (by rw [ez]; exact List.mem_append_right _ (List.mem_singleton.mpr rfl))
    have at0 : atI (ls.map ltD) 0 = some (ltD l0) := by
      rw [el]
      exact atI_nat (j := 0) rfl
    have atz : atI (ls.map ltD) (-1) = some (ltD lz) := by
      rw [ez, List.map_append]
      exact atI_last _ _
    have bent : ∀ {l : Lt} {te : TE} {E : XK} {B : Hp}, LtOk l → De te [some (.ref a), some (.ref d), some v, some u3, some u4, some u5, v6, v7, v8, v9, v10, v11, v12, v13] B (dat K (ltD l)) → Dw (tCall (sp_bent K) [] E (tCons (tVar 1) (tCons te tNil))) [some (.ref a), some (.ref d), some v, some u3, some u4, some u5, v6, v7, v8, v9, v10, v11, v12, v13] d c B (datP K (Sm 4 94)) := fun {l te E B} ok h =>
      Dw.cv (Dw.def1 (args := fun a : Nat × Nat × List PyData => [dat K (.tuple a.2.2)]) (res := fun a => datP K (Bent a.1 a.2.1 a.2.2.length)) (3, 12, [.int l.1, .int l.2.1, wdD l.2.2]) rfl (.cons h .nil) ⟨sm_lt ok, (by show 3 ≤ 3; omega), (by show 3 ≤ 40; omega), (by show 1 ≤ 3; omega), (by show 3 ≤ 6; omega), (by show 12 ≤ 1000; omega)⟩) fun _ _ ⟨x, hx, h⟩ => ⟨x, hx.1, h⟩
    have thg : ∀ {E : XK} {B : Hp} {σ : L2.St}, σ[1]? = some (some (.ref d)) → Dw (tCall (sp_thing K) [] E (tCons (tVar 1) tNil)) σ d c B (datP K ThP) := fun h => Dw.def1 (args := fun _ : Unit => []) (res := fun _ => datP K ThP) () h .nil trivial
    have dr := Dw.lstN (K := K) (S := datP K (Sm 4 94)) (.cons (Dw.D1 (De.op (r := rIxL K) (.var (i := 5) h5 rfl) (De.int (n := 0)) (Rv.ixLD at0)) ((sm_lt ok0.1).mono (by decide) (by decide))) (.cons (bent (E := E0) ok0.1 (De.op (r := rIxL K) (.var (i := 5) h5 rfl) (De.int (n := 0)) (Rv.ixLD at0))) (.cons (bent (E := E0) okz.1 (De.op (r := rIxL K) (.var (i := 5) h5 rfl) (De.negI (.int)) (Rv.ixLD atz))) (.cons (Dw.cv (thg (E := E0) rfl) fun _ _ ⟨x, hx, h⟩ => ⟨x, hx.1.mono (by decide) (by decide), h⟩) .nil)))) (by show 4 ≤ sizeLine; decide)
    refine s_forL (dr B4 H4 (Same.refl _) eD4.dl _ fun u B5 H5 e5 hl => ?_)
    clear dr
    obtain ⟨p, xs, rfl, hs5, lx, hx⟩ := hl
    obtain ⟨ds, hds, ld, sd⟩ := all_ds hx
    have eD5 := eD4.trans L e5
    have h3 := Mo.mo e5.bb h3
    have h4 := Mo.mo e5.bb h4
    have h5 := Mo.mo e5.bb h5
    refine ⟨p, rfl, ⟨xs, e5.bh.seq hs5⟩, ?_⟩
    refine s_forS (Di.itl (dat_lst hs5 hds)) e5.bh (fun i σ B => ∃ v6 v7, σ = [some (.ref a), some (.ref d), some v, some u3, some u4, some u5, v6, v7, v8, v9, v10, v11, v12, v13]) (fun B' s => ⟨_, _, rfl⟩) ?_ ?_
    · rintro B6 H6 e6 i R x' σ' Bc Bn Hn hR ⟨v6, v7, rfl⟩ s e hx'
      rw [List.getElem?_map] at hR
      obtain ⟨th, hth, rfl⟩ := Option.map_eq_some_iff.mp hR
      have st := sd th (List.mem_of_getElem? hth)
      have e1n := e6.trans e
      have h3 := Mo.mo e1n.bb h3
      have h4 := Mo.mo e1n.bb h4
      refine s_set (De.show (.var (R := dat K th) hx' rfl) st.shw) e.bh fun u7 B7 H7 e7 h7 => ?_
      have h3 := Mo.mo e7.bb h3
      have h4 := Mo.mo e7.bb h4
      have hx' : dat K th B7 x' := Mo.mo (R := dat K th) e7.bb hx'
      have hsh : SeqAt.shaped (heardD qs th) = true := by
        unfold heardD
        split <;> decide +kernel
      exact s_skip' (Dt.or2 (Dt.same (K := K) (d := heardD qs th) (De.call (args := fun a : Qs × PyData => [formD K C_Form (qsD a.1), dat K a.2]) (res := fun a => dat K (heardD a.1 a.2)) (qs, th) (.cons (.var h4 rfl) (.cons (.var hx' rfl) .nil)) trivial) (De.iteD (b := letterB qs th) (Dt.tB (De.call (args := fun a : Qs × PyData => [dat K (qsD a.1), dat K a.2]) (res := fun a => dat K (.bool (letterB a.1 a.2))) (qs, th) (.cons (.var h3 rfl) (.cons (.var hx' rfl) .nil)) q8)) (fun _ => .bl) fun _ => .str) hsh) (Dt.eq (Dt.test (De.op (r := rNe) (De.show (.var hx' rfl) st.shw) (.var h7 rfl) Rv.neS)) (by simp))) e7.bh fun B8 H8 e8 => ⟨B8, (e.trans e7).trans e8, _, _, rfl⟩
    rintro σ' B6 H6 e6 ⟨v6, v7, rfl⟩
    have eD6 := eD5.trans L (.of eD5.dl e6)
    have h3 := Mo.mo e6.bb h3
    have h4 : formD K C_Form (qsD qs) B6 u4 := Mo.mo e6.bb h4
    have h5 := Mo.mo e6.bb h5
    -- a letter that is one
    refine s_skip (Dt.eq (Dt.test (K := K) (De.op (R := dat K .none) (T := dat K (.bool false)) (fun B1' H s1 s2 Q q => (De.op (r := rIxL K) (.var h5 rfl) (De.int (K := K) (n := 0)) (Rv.ixLD at0)) B1' H s1 s2 _ fun x B2 H2 e hx => ⟨u4, rfl, rfl, u4, x, B2, qs, ltD l0, rfl, e.bh, Mo.mo (s1.trans e.bb) h4, hx, fun _ w B3 H3 e3 h => q w B3 H3 (e.trans e3) h, fun bad => by rw [lt_letter ok0.1 ok0.2] at bad; cases bad⟩) .non (Rv.notNone (d := .none)))) rfl) e6.bh fun B7 H7 e7 => ?_
    have eD7 := eD6.trans L (.of eD6.dl e7)
    have h3 := Mo.mo e7.bb h3
    have h4 := Mo.mo e7.bb h4
    have h5 := Mo.mo e7.bb h5
    -- rows
    have pos : Pos ls := fun x hx => (lok x hx).1.e0
    obtain ⟨tr, tl9, tl1⟩ := tal_rows l9 (fun l hl => (lok l hl).1) pos
    have tl1 := tl1 (fun z => by rw [z] at l1; cases l1)
    refine s_raw ((De.call (args := fun ls : List Lt => [dat K (.list (ls.map ltD))]) (res := fun ls => dat K (rwsD (tally ls))) ls (.cons (.var h5 rfl) .nil) ⟨by omega, pos⟩) B7 H7 (Same.refl _) e7.bh _ fun w8 B8 H8 e8 h8 => ?_)
    have h8 : dat K (.tuple ((tally ls).map rwD)) B8 w8 := h8
    obtain ⟨t, ts, rfl, hst, hR⟩ := dat_tupR h8
    have eD8 := eD7.trans L (.of eD7.dl e8)
    refine ⟨t, ts, rfl, .inr (seqT e8.bh hst), fun M hM => ?_⟩
    obtain ⟨m0, e9⟩ := Ml.new (xs := ts) eD8.dl hM
    have lt : ts.length = (tally ls).length := by
      have := allR_len hR
      rw [List.length_map, List.length_map] at this
      exact this
    have st : ∀ v ∈ ts, datP K (RP 0) B8 v := ds_all hR fun x hx => by
      obtain ⟨r, hr, rfl⟩ := List.mem_map.mp hx
      exact ⟨tr r hr, fun es e => by injection e with e; rw [← e]; exact Nat.le_refl 3⟩
    have s78 := e8.bb
    have h3 := Mo.mo s78 h3
    have h4 := Mo.mo s78 h4
    change tSeq _ _ _ [some (.ref a), some (.ref d), some v, some u3, some u4, some u5, v6, v7, some (.ref M), v9, v10, v11, v12, v13] (upd H8 M (.lst ts))
    refine s_forR (c_ofL (K := K) (ds := [.int 0, .int 1, .int 1, .int 2]) e9.dl rfl (De.lstD (.cons .int (.cons .int (.cons .int (.cons .int .nil)))) (by show 4 ≤ sizeLine; decide)) (by simp) (by show 4 ≤ 1000; decide) fun y u B9 H9 hy ea hu => ?_)
    obtain ⟨tn, t2, rfl⟩ : ∃ t : Nat, t ≤ 2 ∧ y = .int (t : Int) := by
      simp only [List.mem_cons, List.not_mem_nil, or_false] at hy
      rcases hy with rfl | rfl | rfl | rfl
      · exact ⟨0, by decide, rfl⟩
      · exact ⟨1, by decide, rfl⟩
      · exact ⟨1, by decide, rfl⟩
      · exact ⟨2, by decide, rfl⟩
    have hu := dat_int hu
    subst hu
    refine ⟨(tn : Int), rfl, by omega, by omega, ?_⟩
    have e9a := e9.trans eD8.dl ea
    refine s_forD eD8.dl e9a (Di.itr (K := K)) (fun i σ B' H' => ∃ M v9 v10 v11, σ = [some (.ref a), some (.ref d), some v, some u3, some u4, some u5, v6, v7, some (.ref M), v9, v10, v11, v12, v13] ∧ H8 M = none ∧ ∃ xs, Ml d c B' H' M xs ∧ 1 ≤ xs.length ∧ xs.length ≤ 9 + i ∧ ∀ v ∈ xs, datP K (RP i) B' v) (fun Bq Hq eq => ⟨M, _, _, _, rfl, hM, ts, (m0.ext ea).ext eq, by omega, by omega, fun v hv => Mo.mo (ea.bb.trans eq.bb) (st v hv)⟩) ?_ ?_
    · rintro B10 i R x σ' Bc Hc Bn Hn sB hR ex sx0 ⟨M, v9, v10, v11, rfl, frM, xs, mx, x1, x9, sx⟩ ey hxx
      have i2 : i ≤ 1 := by
        have := (List.getElem?_eq_some_iff.mp hR).1
        rw [List.length_map, List.length_range] at this
        omega
      have exy := ex.trans eD8.dl ey
      have my := mx.ext ey
      have sy : ∀ v ∈ xs, datP K (RP i) Bn v := fun v hv => Mo.mo ey.bb (sx v hv)
      refine s_parR (c_anyLen (K := K) exy.dl rfl rfl my x1 (by omega) fun r H11 hr e11 => c_any (K := K) e11.dl rfl .int (by decide) (by decide) fun w B12 H12 w0 w6 e12 => ?_)
      have m12 := (my.ext e11).ext e12
      have eE := (exy.trans eD8.dl e11).trans eD8.dl e12
      have s12 : ∀ v ∈ xs, datP K (RP i) B12 v := fun v hv => Mo.mo (e11.bb.trans e12.bb) (sy v hv)
      obtain ⟨wn, rfl⟩ := Int.eq_ofNat_of_zero_le w0
      have hel : xs[r]? = some xs[r] := List.getElem?_eq_getElem hr
      obtain ⟨xd, hxd, hxr⟩ := s12 xs[r] (List.getElem_mem hr)
      have kx : (if i = 0 then 111 else if i = 1 then 292 else 654) ≤ 1000 := by
        rcases (show i = 0 ∨ i = 1 by omega) with rfl | rfl <;> decide
      have sxd : SeqAt.shaped xd = true := hxd.1.shaped (by omega)
      change tSeq _ _ _ [some (.ref a), some (.ref d), some v, some u3, some u4, some u5, v6, v7, some (.ref M), some x, some (.int (r : Int)), some (.int (wn : Int)), v12, v13] H12
      obtain ⟨l1', l2'⟩ := m12.look eE.dl
      obtain ⟨dsx, hdsx, ldx, sdx⟩ := all_ds s12
      have hMx := m12.dat hdsx
      have rx : r < dsx.length := by omega
      have dr0 : dsx[r]? = some dsx[r] := List.getElem?_eq_getElem rx
      have ixE : De (tOp (rIxL K) (tVar 8) (tVar 10)) [some (.ref a), some (.ref d), some v, some u3, some u4, some u5, v6, v7, some (.ref M), some x, some (.int (r : Int)), some (.int (wn : Int)), v12, v13] (upd B12 M (.lst xs)) (dat K dsx[r]) := De.op (r := rIxL K) (.var hMx rfl) (.var (Dp.int (r : Int)) rfl) (Rv.ixLD (atI_nat dr0))
      have lenx := dsx.length
      have tst : Dt (tAnd (tTest (tOp (rI0 fun i j => V.bl (decide (i < j))) (tVar 11) (tC (.int 3)))) (tAnd (tB (tCB (rIsi K) (tCons (tOp (rIxL K) (tVar 8) (tVar 10)) (tCons (tC (.ty "tuple")) tNil)))) (tTest (tOp (rNeD K) (tOp (rIxL K) (tVar 8) (tVar 10)) (tTup tNil))))) [some (.ref a), some (.ref d), some v, some u3, some u4, some u5, v6, v7, some (.ref M), some x, some (.int (r : Int)), some (.int (wn : Int)), v12, v13] (upd B12 M (.lst xs)) (decide ((wn : Int) < 3) && tupNE dsx[r]) := by
        refine Dt.and (Dt.test (K := K) (De.op (.var (Dp.int (wn : Int)) rfl) .int Rv.I0b)) fun _ => ?_
        have sh : SeqAt.shaped dsx[r] = true := (sdx _ (List.getElem_mem rx)).1.shaped (by omega)
        cases ht : isD "tuple" dsx[r] with
        | false =>
          have e : tupNE dsx[r] = false := by
            generalize dsx[r] = q at ht
            cases q <;> first | rfl | cases ht
          rw [e]
          exact Dt.and (a := false) (b := false) (Dt.eq (Dt.tB (De.isi ixE (by simp))) ht) fun z => nomatch z
        | true =>
          generalize dsx[r] = q at ht ixE sh
          obtain ⟨qs2, rfl⟩ : ∃ ds, q = .tuple ds := by cases q <;> first | exact ⟨_, rfl⟩ | cases ht
          refine Dt.and (a := true) (Dt.eq (Dt.tB (De.isi ixE (by simp))) ht) fun _ => Dt.eq (Dt.test (De.op (r := rNeD K) ixE (De.tupD (K := K) .nil (by show 0 ≤ sizeLine; decide)) (Rv.neD sh rfl))) ?_
          rw [eqv_nilT]
          cases qs2 <;> rfl
      refine s_ifB (fun σ2 H2 => ∃ xs2 B13, σ2 = [some (.ref a), some (.ref d), some v, some u3, some u4, some u5, v6, v7, some (.ref M), some x, some (.int (r : Int)), some (.int (wn : Int)), v12, v13] ∧ ExtD d c B8 H8 B13 H2 ∧ Same B12 B13 ∧ Ml d c B13 H2 M xs2 ∧ xs2.length = xs.length ∧ ∀ z ∈ xs2, datP K (RP (i + 1)) B13 z) tst l2' (fun tt B13 H13 e13 Z hZ => ?_) (fun _ B13 H13 e13 => ?_) ?_
      · rw [Bool.and_eq_true] at tt
        obtain ⟨y, l, eq⟩ := tupNE_form tt.2
        have rpx := sdx _ (List.getElem_mem rx)
        rw [eq] at rpx
        have e13 := Ml.looked eE.dl e13
        have hxv : dat K (.tuple (y :: l)) B12 xs[r] := by
          have g := allR_get hdsx (i := r) (by rw [List.getElem?_map, dr0]; rfl) hel
          rw [eq] at g
          exact g
        refine c_defAt (K := K) (i := 1) (j := 8) (n := 10) (r := r) (args := fun a : Nat × Nat × List PyData => [dat K (.tuple a.2.2)]) (res := fun a => datP K (Bent a.1 a.2.1 a.2.2.length)) (3 + i, (if i = 0 then 111 else if i = 1 then 292 else 654), y :: l) e13.dl rfl rfl rfl (m12.ext e13) hel ⟨_, [], rfl, hxv, rfl⟩ ⟨rpx.1, (by show 3 ≤ 3 + i; omega), (by show 3 + i ≤ 40; omega), (by show 1 ≤ l.length + 1; omega), (by have := rpx.2 _ rfl; show (y :: l).length ≤ 6; omega), kx⟩ fun u B14 H14 e14 hu => ?_
        have m14 := (m12.ext e13).ext e14
        have eG := (eE.trans eD8.dl e13).trans eD8.dl e14
        refine ⟨.ref M, rfl, .int r, rfl, M, xs, r, r, rfl, rfl, m14.at_, ixNn hr, hZ _ _ ⟨xs.set r u, B14, rfl, eG.setL m14 frM, e13.bb.trans e14.bb, (Ml.set eG.dl m14).1, by rw [List.length_set], fun z hz => ?_⟩⟩
        rcases List.mem_or_eq_of_mem_set hz with h | h
        · obtain ⟨q, h1, h2⟩ := s12 z h
          exact ⟨q, h1.up i2, Mo.mo (e13.bb.trans e14.bb) h2⟩
        · rw [h]
          obtain ⟨q, h1, h2⟩ := hu
          exact ⟨q, RP.bent i2 (rpx.2 _ rfl) h1, h2⟩
      · have e13 := Ml.looked eE.dl e13
        exact ⟨xs, B12, rfl, eE.trans eD8.dl e13, Same.refl _, m12.ext e13, rfl, fun z hz => by
          obtain ⟨q, h1, h2⟩ := s12 z hz
          exact ⟨q, h1.up i2, h2⟩⟩
      · rintro σ2 H13 ⟨xs2, B13, rfl, eF, sF, mF, lF, sx2⟩
        have rle : r ≤ xs2.length := by omega
        have fr8 := eD8.dl
        have hv2 : xs2[r]? = some (xs2[r]'(by omega)) := List.getElem?_eq_getElem (by omega)
        have vr := Dm.var (σ := [some (.ref a), some (.ref d), some v, some u3, some u4, some u5, v6, v7, some (.ref M), some x, some (.int (r : Int)), some (.int (wn : Int)), v12, v13]) (d := d) (c := c) (B0 := B8) (S := datP K (RP (i + 1))) (j := 8) frM rfl sx2
        have th2 : Dw (tCall (sp_thing K) [] E0 (tCons (tVar 1) tNil)) [some (.ref a), some (.ref d), some v, some u3, some u4, some u5, v6, v7, some (.ref M), some x, some (.int (r : Int)), some (.int (wn : Int)), v12, v13] d c B13 (datP K (RP (i + 1))) := Dw.cv (thg rfl) fun _ _ ⟨q, hq, h⟩ => ⟨q, RP.thing hq.1 hq.2 _, h⟩
        have six := Dms.cons (lo := 1) (hi := 9 + (i + 1)) fr8 vr (.cons fr8 vr (.cons fr8 vr (.cons fr8 (Dm.cat (K := K) fr8 vr (Dm.oneIx (K := K) (j := 8) (i := 10) fr8 rfl rfl hv2 sx2) (by omega)) (.cons fr8 (Dm.cat (K := K) fr8 (Dm.slFrom (K := K) (j := 8) (i := 10) fr8 rfl rfl rle sx2) (Dm.slTo (K := K) (j := 8) (i := 10) fr8 rfl rfl rle sx2) (by omega)) (.cons fr8 (Dm.cat (K := K) fr8 (Dm.cat (K := K) fr8 (Dm.slTo (K := K) (j := 8) (i := 10) fr8 rfl rfl rle sx2) (Dm.one fr8 th2) (by omega)) (Dm.slFrom (K := K) (j := 8) (i := 10) fr8 rfl rfl rle sx2) (by omega)) .nil (by omega) (by omega)) (by omega) (by omega)) (by omega) (by omega)) (by omega) (by omega)) (by omega) (by omega)) (by omega) (by omega)
        refine s_rawE (c_ixHid (K := K) (i := 11) (r := wn) eF (Same.refl _) mF six (by decide) rfl (by omega) fun p zs B14 H14 e14 mp frp l1 l2 sz => ?_)
        exact ⟨B14, eF.trans eD8.dl e14, ((sx0.trans ey.bb).trans (e11.bb.trans e12.bb)).trans (sF.trans e14.bb), p, _, _, _, rfl, frp, zs, mp, l1, l2, sz⟩
    rintro σ' B10 H10 ex sx0 ⟨M, v9, v10, v11, rfl, frM, xs, mx, x1, x9, sx⟩
    rw [List.length_map, List.length_range] at x9 sx
    obtain ⟨ds, hds, ld, sd⟩ := all_ds sx
    have eS := ex.settle mx frM
    have hM := mx.dat hds
    have sd2 : ∀ x ∈ ds, Sm 5 654 x := fun x hx => (sd x hx).1.mono (by omega) (by
      rcases (show (tn : Int).toNat = 0 ∨ (tn : Int).toNat = 1 ∨ 2 ≤ (tn : Int).toNat by omega) with e | e | e
      · rw [if_pos e]; decide
      · rw [if_neg (by omega), if_pos e]; decide
      · rw [if_neg (by omega), if_neg (by omega)]; exact Nat.le_refl _)
    have ld2 : ds.length ≤ 11 := by omega
    have sl : Sm 6 7205 (.list ds) := sm_list sd2 11 ld2 _ (by decide)
    have st2 : Sm 6 7205 (.tuple ds) := sm_tuple sd2 11 ld2 _ (by decide)
    have tup : Dw (tCB (rTup K) (tCons (tVar 8) tNil)) [some (.ref a), some (.ref d), some v, some u3, some u4, some u5, v6, v7, some (.ref M), v9, v10, v11, v12, v13] d c (upd B10 M (.lst xs)) (datP K (Sm 6 7205)) := Dw.D1 (De.tupleL (.var hM rfl)) st2
    have sX : Same B8 (upd B10 M (.lst xs)) := ex.bb.trans (new_same mx.no)
    have h3 := Mo.mo sX h3
    have h4 := Mo.mo sX h4
    have eR := eD8.trans L eS
    refine s_w eR.dl (Dw.pick (S := datP K (Sm 6 7205)) (i := 1) rfl (.cons tup (.cons tup (.cons tup (.cons tup (.cons (Dw.D1 (.var hM rfl) sl) (.cons (Dw.cv (thg rfl) fun _ _ ⟨x, hx, h⟩ => ⟨x, hx.1.mono (by decide) (by decide), h⟩) .nil)))))) (by decide) (by decide)) fun u8 B11 H11 e11 ⟨r, sr, h8⟩ => ?_
    have eT := eR.trans L e11
    have h3 := Mo.mo e11.bb h3
    have h4 := Mo.mo e11.bb h4
    have h8 : dat K r B11 u8 := h8
    refine s_set (De.call (args := fun a : Qs × PyData => [dat K (qsD a.1), dat K a.2]) (res := fun a => dat K (rowsFault a.1 a.2)) (qs, r) (.cons (.var h3 rfl) (.cons (.var h8 rfl) .nil)) ⟨q8, 6, 7205, by decide, sr, by decide⟩) e11.bh fun u12 B12 H12 e12 h12 => ?_
    have eU := eT.trans L (.of e11.dl e12)
    have h3 : dat K (qsD qs) B12 u3 := Mo.mo e12.bb h3
    have h4 : formD K C_Form (qsD qs) B12 u4 := Mo.mo e12.bb h4
    have h8 := Mo.mo e12.bb h8
    have h12 : dat K (rowsFault qs r) B12 u12 := h12
    obtain ⟨sq1, sq2⟩ := sm_qs fo
    change tSeq _ _ _ [some (.ref a), some (.ref d), some v, some u3, some u4, some u5, v6, v7, some u8, v9, v10, v11, some u12, v13] H12
    refine s_ifW0 (fun σ2 H2 => ∃ u4 u12 B13 b f, σ2 = [some (.ref a), some (.ref d), some v, some u3, some u4, some u5, v6, v7, some u8, v9, v10, v11, some u12, v13] ∧ ExtD d c B12 H12 B13 H2 ∧ valR K C_Form b f B13 u4 ∧ Sm 4 2000 f ∧ (b = false → PyData.eqv f (.int 7) = false) ∧ dat K (tvFault (.tal b f r)) B13 u12) eU.dl (Dtw.eq (K := K) (Dw.any (K := K) rfl .int (by decide) (by decide)) Dw.int) (fun B13 H13 e13 Z hZ => ?_) (fun B13 H13 e13 => ⟨u4, u12, B13, true, qsD qs, rfl, e13, Mo.mo (R := formD K C_Form (qsD qs)) e13.bb h4, sq1, (fun z => nomatch z), ?_⟩) ?_
    · have h3 := Mo.mo e13.bb h3
      have mkF : ∀ {te : TE} {f : PyData} {E : XK} {σ : L2.St}, De te σ B13 (dat K f) → Sm 4 2000 f → isNoneD (faultD f) = false → Dw (tMake C_Form (spIns C_Form ["questions"]) [] E (tCons te tNil)) σ d c B13 (FormP K C_Form) := fun {te f E σ} h sf nf => Dw.cv (.of (De.form h)) fun B v hv => ⟨true, f, hv, sf, nf, fun z => nomatch z⟩
      refine s_parWE (eU.trans L e13).dl (Dwa.cons (Dw.pick (S := FormP K C_Form) (i := 1) rfl (.cons (Dw.cv (.of (De.var (R := dat K (qsD qs)) h3 rfl)) fun B v hv => ⟨false, qsD qs, hv, sq1, rfl, fun _ => rfl⟩) (.cons (Dw.cv (.of (De.non (K := K))) fun B v hv => ⟨false, .none, hv, .none, rfl, fun _ => rfl⟩) (.cons (mkF (De.tupD (ds := []) .nil (by show 0 ≤ sizeLine; decide)) (.tuple (W := 0) (fun x h => nomatch h) (by decide)) rfl) (.cons (mkF (De.listT (.var h3 rfl)) sq2 rfl) .nil)))) (by decide) (by decide)) (Dwa.one (.of (De.op (De.int (n := 0)) (De.int (K := K) (n := 1)) Rv.I0)))) fun x y B14 H14 e14 ⟨b, f, hx, sf, nf, n7⟩ hy => hZ _ _ ⟨x, y, B14, b, f, rfl, e13.trans eU.dl e14, hx, sf, n7, ?_⟩
      have e : tvFault (.tal b f r) = .int (-1) := by
        show (if isNoneD (valFault b f) = true then rowsFault (qsOf f) r else .int (-1)) = _
        rw [nf]
        rfl
      rw [e]
      exact hy
    · have e : tvFault (.tal true (qsD qs) r) = rowsFault qs r := by
        show (if isNoneD (faultD (qsD qs)) = true then rowsFault (qsOf (qsD qs)) r else .int (-1)) = _
        rw [fok_fault fo, qsOf_D]
        rfl
      rw [e]
      exact Mo.mo e13.bb h12
    rintro σ2 H13 ⟨u4, u12, B13, b, f, rfl, e13, h4, sf, n7, h12⟩
    have eV := eU.trans L e13
    have h3 := Mo.mo e13.bb h3
    have h8 := Mo.mo e13.bb h8
    refine s_set (De.tal (K := K) (CF := C_Form) (CT := C_Tally) (.var (i := 4) h4 rfl) (.var h8 rfl)) e13.bh fun u13 B14 H14 e14 h13 => ?_
    have eW := eV.trans L (.of eV.dl e14)
    have h4 := Mo.mo e14.bb h4
    have h8 := Mo.mo e14.bb h8
    have h12 := Mo.mo e14.bb h12
    have h13 : talR K C_Form C_Tally (b, f, r) B14 u13 := h13
    have shF : Shw (tvFault (.tal b f r)) := tv_shw (k := 6) (W := 7205) (fun b' f' r' e => by cases e; exact sr) (by decide)
    have sff : SeqAt.shaped f = true := sf.shaped
    have srr : SeqAt.shaped r = true := sr.shaped
    have isN : ∀ {B : Hp} {σ : L2.St}, Same B14 B → σ[12]? = some (some u12) → De (tOp (fun x y H Q => y = .non ∧ Q (.bl (decide (x = .non))) H) (tVar 12) (tC .non)) σ B (dat K (.bool (isNoneD (tvFault (.tal b f r))))) := fun s h => De.op (.var (Mo.mo s h12) h) .non Rv.isNone
    have shB : ∀ n : Bool, Shw (.list [.bool n, .bool n]) := fun n => (sm_lst2 (k := 0) (W := 0) (.bool n) (.bool n) (V := 2) (by decide)).shw
    refine s_skip (Dt.or2 (Dt.reprs (K := K) (d := tvFault (.tal b f r)) (De.call (args := fun t : TV => [tvR K C_Form C_Tally t]) (res := fun t => dat K (tvFault t)) (.tal b f r) (.cons (.var h13 rfl) .nil) sf.shorts) (.var h12 rfl) shF) (Dt.reprs (K := K) (d := .list [.bool (isNoneD (tvFault (.tal b f r))), .bool (isNoneD (tvFault (.tal b f r)))]) (De.lstD (.cons (De.call (args := fun t : TV => [tvR K C_Form C_Tally t]) (res := fun t => dat K (.bool (isNoneD (tvFault t)))) (.tal b f r) (.cons (.var h13 rfl) .nil) sf.shorts) (.cons (De.callK (args := fun t : TV => [tvR K C_Form C_Tally t]) (res := fun t => dat K (.bool (isNoneD (tvFault t)))) (.tal b f r) (.cons (.var h13 rfl) .nil) rfl (fun _ _ => kw1) sf.shorts) .nil)) (by show 2 ≤ sizeLine; decide)) (De.lstD (.cons (isN (Same.refl _) rfl) (.cons (isN (Same.refl _) rfl) .nil)) (by show 2 ≤ sizeLine; decide)) (shB _))) e14.bh fun B15 H15 e15 => ?_
    have eX := eW.trans L (.of eW.dl e15)
    have h4 := Mo.mo e15.bb h4
    have h8 := Mo.mo e15.bb h8
    have h13 : talR K C_Form C_Tally (b, f, r) B15 u13 := Mo.mo e15.bb h13
    have eqT : ∀ {B : Hp} {ta tb : TE} {σ : L2.St} {b1 : Bool} {f1 r1 : PyData} {b2 : Bool} {f2 r2 : PyData}, De ta σ B (talR K C_Form C_Tally (b1, f1, r1)) → De tb σ B (talR K C_Form C_Tally (b2, f2, r2)) → okTV (b1, f1, r1) (.tal b2 f2 r2) → De (tOp (rEqI C_Tally (sp_eqTally K C_Form C_Tally)) ta tb) σ B (dat K (.bool (eqTV (b1, f1, r1) (.tal b2 f2 r2)))) := fun {B ta tb σ b1 f1 r1 b2 f2 r2} ha hb ok =>
      De.op (r := rEqI C_Tally (sp_eqTally K C_Form C_Tally)) ha hb (Rv.eqIns (args := fun a : (Bool × PyData × PyData) × TV => [talR K C_Form C_Tally a.1, tvR K C_Form C_Tally a.2]) (pre := fun a => okTV a.1 a.2) (res := fun a => dat K (.bool (eqTV a.1 a.2))) ((b1, f1, r1), .tal b2 f2 r2) ok (fun B p q hp hq => ⟨p, [q], rfl, hp, q, [], rfl, hq, rfl⟩) rfl)
    have self : eqTV (b, f, r) (.tal b f r) = true := eqTV_self (a := (b, f, r)) sf sr
    refine s_skip (Dt.or2 (Dt.eq (Dt.and (b := false) (Dt.test (isN e15.bb rfl)) fun na => ?_) (by rw [Bool.and_false])) (Dt.or2 (Dt.eq (Dt.not (Dt.test (eqT (De.makeR (.cons (.var h8 rfl) (.cons (.var h4 rfl) .nil))) (.var h13 rfl) ⟨sff, srr, sff, srr, id⟩))) (by rw [self]; rfl)) (Dt.test (De.op (r := rEqY K C_Tally (sp_eqTally K C_Form C_Tally)) (.var h13 rfl) (.var h8 rfl) (Rv.eqDatY (args := fun a : (Bool × PyData × PyData) × TV => [talR K C_Form C_Tally a.1, tvR K C_Form C_Tally a.2]) (pre := fun a => okTV a.1 a.2) (res := fun a => dat K (.bool (eqTV a.1 a.2))) (t := false) ((b, f, r), .dat r) trivial (fun B p q hp hq => ⟨p, [q], rfl, hp, q, [], rfl, hq, rfl⟩) rfl))))) e15.bh fun B16 H16 e16 => ?_
    · have no : tvFault (.tal b f r) = .none := by
        rcases tvFault_kinds (.tal b f r) with e | ⟨i, e⟩
        · exact e
        · rw [e] at na
          cases na
      exact Dt.eq (Dt.test (K := K) (De.op (R := dat K .none) (T := dat K (.bool false)) (fun B1' H s1 s2 Q q => ⟨u13, rfl, rfl, u13, B1', .tal b f r, rfl, s2, Mo.mo (R := talR K C_Form C_Tally (b, f, r)) s1 h13, sf.shorts, fun _ w B2 H2 e h => q w B2 H2 e h, fun i hi => by rw [no] at hi; cases hi⟩) .non (Rv.notNone (d := .none)))) rfl
    have eY := eX.trans L (.of eX.dl e16)
    have h4 := Mo.mo e16.bb h4
    have h8 := Mo.mo e16.bb h8
    have h13 : talR K C_Form C_Tally (b, f, r) B16 u13 := Mo.mo e16.bb h13
    have s2r : SeqAt.shaped (.tuple [r, r]) = true := (sm_tup2 (k := 6) (W := 7205) sr sr (V := 20000) (by decide)).shaped
    refine s_skip' (Dt.or2 (Dt.eq (Dt.test (eqT (.var h13 rfl) (De.tal (.var h4 rfl) (De.tupD (.cons (.var h8 rfl) (.cons (.var h8 rfl) .nil)) (by show 2 ≤ sizeLine; decide))) ⟨sff, srr, sff, s2r, id⟩)) (by show (eqV b f b f && PyData.eqv r (.tuple [r, r])) = false; rw [eqv_twice, Bool.and_false])) (Dt.or2 (Dt.eq (Dt.test (eqT (b2 := false) (f2 := .int 7) (.var h13 rfl) (De.tal (b := false) (f := .int 7) .int (.var h8 rfl)) ⟨sff, srr, rfl, srr, fun _ => rfl⟩)) (by
      show (eqV b f false (.int 7) && PyData.eqv r r) = false
      have : eqV b f false (.int 7) = false := by
        cases b with
        | true => rfl
        | false => exact n7 rfl
      rw [this, Bool.false_and])) (Dt.or2 (Dt.reprs (K := K) (d := r) (fldR K_Tally (.var (R := insR C_Tally [("form", valR K C_Form b f), ("rows", dat K r)]) h13 rfl)) (.var h8 rfl) sr.shw) (Dt.eq (Dt.not (Dt.test (De.eqV (fldF K_Tally (.var (R := insR C_Tally [("form", valR K C_Form b f), ("rows", dat K r)]) h13 rfl)) (.var h4 rfl) sff sff id))) (by
      have : eqV b f b f = true := by
        unfold eqV
        rw [SeqAt.eqv_refl _ sf.lay]
        cases b <;> rfl
      rw [this]
      rfl))))) e16.bh fun B17 H17 e17 => ⟨B17, eY.trans L (.of eY.dl e17), ((((((((((((((sZ.trans e2.bb).trans e3.bb).trans e4.bb).trans e5.bb).trans e6.bb).trans e7.bb).trans e8.bb).trans sX).trans e11.bb).trans e12.bb).trans e13.bb).trans e14.bb).trans e15.bb).trans e16.bb).trans e17.bb, _, _, _, _, _, _, _, _, _, _, _, _, rfl⟩
  · rintro σ' B' H' e' _ ⟨v2, v3, v4, v5, v6, v7, v8, v9, v10, v11, v12, v13, rfl⟩
    refine s_w e'.dl (Dw.def1 (args := fun _ : Unit => []) (res := fun _ => datP K ThP) () rfl .nil trivial) fun u6 B2 H2 e2 ⟨x, sx, h6⟩ => ?_
    have h6 : dat K x B2 u6 := h6
    exact s_ret (De.andV (a := true) (De.eq (De.op (r := rEqD K) (De.call (args := fun t : TV => [tvR K C_Form C_Tally t]) (res := fun t => dat K (tvFault t)) (.dat x) (.cons (.var (R := dat K x) h6 rfl) .nil) trivial) (De.op (De.int (n := 0)) (De.int (K := K) (n := 1)) Rv.I0) (Rv.eqD rfl rfl)) rfl) fun _ => De.op (De.call (args := fun t : TV => [tvR K C_Form C_Tally t]) (res := fun t => dat K (.bool (isNoneD (tvFault t)))) (.dat x) (.cons (.var (R := dat K x) h6 rfl) .nil) trivial) (De.bl (b := false)) (Rv.isB (i := false))) e2.bh fun v B' H' e h => by
      have hb := dat_bl h
      subst hb
      exact k H'
end
end K30

set_option Elab.async false
set_option linter.all false
set_option maxRecDepth 100000
set_option maxHeartbeats 4000000
namespace K30
open PySem PySem.Spec PyProof.Rows L2 Wb Wv Fm Ta
theorem ini_InvalidForm {P : Program} {w : World} {K : PySem.W.Frag} {mg : Str → Option Value} {base : Heap} {C fI : Addr} {fd : FuncData} (F : Fun K "__init__" "InvalidForm.__init__" (inClass (topS 2) 0) fI fd) (T : ErrC K C) (no : PySem.W.findIn K (.ref C) "at" = some none) : FnOk P w K mg base CX0 1 fI fd ["self", "at"] (spIni C "at") := by
  refine F.ok (N := ["self", "at"]) ⟨rfl, rfl, rfl, by decide +kernel, rfl, by decide +kernel, by decide +kernel⟩ (fun vs H Q E h => ?_) (fun cdv A outer s H vs Q E hr h => ?_)
  · obtain ⟨a, v, rfl, _⟩ := h
    rfl
  · obtain ⟨a, v, rfl, ha, q⟩ := h
    refine ⟨_, pss_one (ps_ini (pv 0) (pv 1)), ?_⟩
    exact ⟨_, rfl, _, rfl, a, C, rfl, T, no, ha, q⟩
theorem ini_InvalidSheets {P : Program} {w : World} {K : PySem.W.Frag} {mg : Str → Option Value} {base : Heap} {C fI : Addr} {fd : FuncData} (F : Fun K "__init__" "InvalidSheets.__init__" (inClass (topS 3) 0) fI fd) (T : ErrC K C) (no : PySem.W.findIn K (.ref C) "at" = some none) : FnOk P w K mg base CX0 1 fI fd ["self", "at"] (spIni C "at") := by
  refine F.ok (N := ["self", "at"]) ⟨rfl, rfl, rfl, by decide +kernel, rfl, by decide +kernel, by decide +kernel⟩ (fun vs H Q E h => ?_) (fun cdv A outer s H vs Q E hr h => ?_)
  · obtain ⟨a, v, rfl, _⟩ := h
    rfl
  · obtain ⟨a, v, rfl, ha, q⟩ := h
    refine ⟨_, pss_one (ps_ini (pv 0) (pv 1)), ?_⟩
    exact ⟨_, rfl, _, rfl, a, C, rfl, T, no, ha, q⟩
theorem ini_InvalidSize {P : Program} {w : World} {K : PySem.W.Frag} {mg : Str → Option Value} {base : Heap} {C fI : Addr} {fd : FuncData} (F : Fun K "__init__" "InvalidSize.__init__" (inClass (topS 4) 0) fI fd) (T : ErrC K C) (no : PySem.W.findIn K (.ref C) "word" = some none) : FnOk P w K mg base CX0 1 fI fd ["self", "word"] (spIni C "word") := by
  refine F.ok (N := ["self", "word"]) ⟨rfl, rfl, rfl, by decide +kernel, rfl, by decide +kernel, by decide +kernel⟩ (fun vs H Q E h => ?_) (fun cdv A outer s H vs Q E hr h => ?_)
  · obtain ⟨a, v, rfl, _⟩ := h
    rfl
  · obtain ⟨a, v, rfl, ha, q⟩ := h
    refine ⟨_, pss_one (ps_ini (pv 0) (pv 1)), ?_⟩
    exact ⟨_, rfl, _, rfl, a, C, rfl, T, no, ha, q⟩
theorem inic_Form {P : Program} {w : World} {K : PySem.W.Frag} {mg : Str → Option Value} {base : Heap} {C fI : Addr} {fd : FuncData} (F : Fun K "__init__" "Form.__init__" (inClass (topS 12) 0) fI fd) (c : Cls K C) (na0 : NoAttr K C "questions") : FnOk P w K mg base CX0 1 fI fd ["self", "questions"] (spIns C ["questions"]) := by
  refine F.ok (N := ["self", "questions"]) ⟨rfl, rfl, rfl, by decide +kernel, rfl, by decide +kernel, by decide +kernel⟩ (fun vs H Q E h => ?_) (fun cdv A outer s H vs Q E hr h => ?_)
  · obtain ⟨x, dx, us, rfl, hl, _⟩ := h
    rw [List.length_cons, hl]
    rfl
  · obtain ⟨x, dx, us, rfl, hl, ha, q⟩ := h
    match us, hl with
    | [u0], _ =>
      refine ⟨_, (pss_one (ps_fld (pv 0) (pv 1) (by rfl))), ?_⟩
      refine ⟨_, rfl, _, rfl, x, C, dx, _, rfl, ha, c, na0, by simp [putF], q⟩
theorem inic_Tally {P : Program} {w : World} {K : PySem.W.Frag} {mg : Str → Option Value} {base : Heap} {C fI : Addr} {fd : FuncData} (F : Fun K "__init__" "Tally.__init__" (inClass (topS 20) 0) fI fd) (c : Cls K C) (na0 : NoAttr K C "form") (na1 : NoAttr K C "rows") : FnOk P w K mg base CX0 1 fI fd ["self", "form", "rows"] (spIns C ["form", "rows"]) := by
  refine F.ok (N := ["self", "form", "rows"]) ⟨rfl, rfl, rfl, by decide +kernel, rfl, by decide +kernel, by decide +kernel⟩ (fun vs H Q E h => ?_) (fun cdv A outer s H vs Q E hr h => ?_)
  · obtain ⟨x, dx, us, rfl, hl, _⟩ := h
    rw [List.length_cons, hl]
    rfl
  · obtain ⟨x, dx, us, rfl, hl, ha, q⟩ := h
    match us, hl with
    | [u0, u1], _ =>
      refine ⟨_, (pss_cons (ps_fld (pv 0) (pv 1) (by rfl)) (pss_one (ps_fld (pv 0) (pv 2) (by rfl)))), ?_⟩
      refine ⟨_, rfl, _, rfl, x, C, dx, _, rfl, ha, c, na0, by simp [putF], ⟨_, rfl, _, rfl, x, C, dx, _, rfl, upd_same, c, na1, by simp [putF], (by show Q V.non (upd (upd H x _) x _); rw [upd_upd]; exact q)⟩⟩
end K30
namespace K30
open PySem PySem.Spec PyProof.Rows L2 Wb Wv Fm Ta
set_option maxHeartbeats 4000000 in
theorem all_mk {l : PySem.W.OpenLaw} {w : World} {K : PySem.W.Frag} {h : Heap} {mg : Str → Option Value} {fa C_BlankError C_InvalidForm C_InvalidSheets C_InvalidSize f_InvalidForm f_InvalidSheets f_InvalidSize C_Form f_Form q_Form C_Tally f_Tally q_Tally g_isInt g_isNumber g_isName g_isTupleOf g_isMany g_mayFollow g_formFault g_isForm g_areAnswers g_isSheet g_isWord g_needLetter g_areWords g_isRow g_tallyFault g_needTally g_isTally g_source g_any g_of g_lname g_lnames g_lform g_lrows g_lletters g_due g_once g_thing g_bent g_lisNum g_lisWord g_lisLetter g_lisRow g_wrong g_told g_lheard g_law : Addr} {t_MOST_QUESTIONS : Tok}
    (X : K.In h) (G : h.Ns mainGlobals mg) (hfa : mg "law" = some (.ref fa))
    (aC_BlankError : PySem.W.nsIn K mainGlobals "BlankError" = some (some (.ref C_BlankError)))
    (aC_InvalidForm : PySem.W.nsIn K mainGlobals "InvalidForm" = some (some (.ref C_InvalidForm)))
    (aC_InvalidSheets : PySem.W.nsIn K mainGlobals "InvalidSheets" = some (some (.ref C_InvalidSheets)))
    (aC_InvalidSize : PySem.W.nsIn K mainGlobals "InvalidSize" = some (some (.ref C_InvalidSize)))
    (hn : PySem.W.specialIn K (.builtin "object.__class__") "__get__" = some (some (.builtin "getset_descriptor.__get__")))
    (ht : PySem.W.takesIn K (.builtin "object.__class__") = some true)
    (e_BlankError : EF K C_BlankError topB "Exception.__new__")
    (e_InvalidForm : EF K C_InvalidForm (topE C_BlankError) "Exception.__new__")
    (a_InvalidForm : PySem.W.findIn K (.ref C_InvalidForm) "__init__" = some (some (.ref f_InvalidForm)))
    (t_InvalidForm : PySem.W.typeIn K (.ref f_InvalidForm) = some (.type "function"))
    (no_InvalidForm : PySem.W.findIn K (.ref C_InvalidForm) "at" = some none)
    (l_InvalidForm : FnF K "__init__" "InvalidForm.__init__" (inClass (topS 2) 0) f_InvalidForm)
    (e_InvalidSheets : EF K C_InvalidSheets (topE C_BlankError) "Exception.__new__")
    (a_InvalidSheets : PySem.W.findIn K (.ref C_InvalidSheets) "__init__" = some (some (.ref f_InvalidSheets)))
    (t_InvalidSheets : PySem.W.typeIn K (.ref f_InvalidSheets) = some (.type "function"))
    (no_InvalidSheets : PySem.W.findIn K (.ref C_InvalidSheets) "at" = some none)
    (l_InvalidSheets : FnF K "__init__" "InvalidSheets.__init__" (inClass (topS 3) 0) f_InvalidSheets)
    (e_InvalidSize : EF K C_InvalidSize (topE C_BlankError) "Exception.__new__")
    (a_InvalidSize : PySem.W.findIn K (.ref C_InvalidSize) "__init__" = some (some (.ref f_InvalidSize)))
    (t_InvalidSize : PySem.W.typeIn K (.ref f_InvalidSize) = some (.type "function"))
    (no_InvalidSize : PySem.W.findIn K (.ref C_InvalidSize) "word" = some none)
    (l_InvalidSize : FnF K "__init__" "InvalidSize.__init__" (inClass (topS 4) 0) f_InvalidSize)
    (aC_Form : PySem.W.nsIn K mainGlobals "Form" = some (some (.ref C_Form)))
    (pg_Form : PySem.W.plainGet K C_Form Str.empty = true)
    (hd_Form : PySem.W.hasDictIn K C_Form = true)
    (po_Form : PySem.W.plainOver K C_Form = true)
    (sa_Form : PySem.W.findIn K (.ref C_Form) "__setattr__" = some (some (.builtin "object.__setattr__")))
    (mk_Form : PySem.W.makesIn K C_Form = true)
    (kc_Form : PySem.W.keepIn K (.ref C_Form) = true)
    (a_Form : PySem.W.findIn K (.ref C_Form) "__init__" = some (some (.ref f_Form)))
    (fn_Form : PySem.W.isFn K (.ref f_Form) = true)
    (na0_Form : PySem.W.findIn K (.ref C_Form) "questions" = some none)
    (l_Form : FnF K "__init__" "Form.__init__" (inClass (topS 12) 0) f_Form)
    (eqa_Form : PySem.W.findIn K (.ref C_Form) "__eq__" = some (some (.ref q_Form)))
    (eqf_Form : PySem.W.isFn K (.ref q_Form) = true)
    (nea_Form : PySem.W.findIn K (.ref C_Form) "__ne__" = some (some (.builtin "object.__ne__")))
    (ca_Form : PySem.W.findIn K (.ref C_Form) "__class__" = some (some (.builtin "object.__class__")))
    (lq_Form : FnF K "__eq__" "Form.__eq__" (inClass (topS 12) 1) q_Form)
    (aC_Tally : PySem.W.nsIn K mainGlobals "Tally" = some (some (.ref C_Tally)))
    (pg_Tally : PySem.W.plainGet K C_Tally Str.empty = true)
    (hd_Tally : PySem.W.hasDictIn K C_Tally = true)
    (po_Tally : PySem.W.plainOver K C_Tally = true)
    (sa_Tally : PySem.W.findIn K (.ref C_Tally) "__setattr__" = some (some (.builtin "object.__setattr__")))
    (mk_Tally : PySem.W.makesIn K C_Tally = true)
    (kc_Tally : PySem.W.keepIn K (.ref C_Tally) = true)
    (a_Tally : PySem.W.findIn K (.ref C_Tally) "__init__" = some (some (.ref f_Tally)))
    (fn_Tally : PySem.W.isFn K (.ref f_Tally) = true)
    (na0_Tally : PySem.W.findIn K (.ref C_Tally) "form" = some none)
    (na1_Tally : PySem.W.findIn K (.ref C_Tally) "rows" = some none)
    (l_Tally : FnF K "__init__" "Tally.__init__" (inClass (topS 20) 0) f_Tally)
    (eqa_Tally : PySem.W.findIn K (.ref C_Tally) "__eq__" = some (some (.ref q_Tally)))
    (eqf_Tally : PySem.W.isFn K (.ref q_Tally) = true)
    (nea_Tally : PySem.W.findIn K (.ref C_Tally) "__ne__" = some (some (.builtin "object.__ne__")))
    (ca_Tally : PySem.W.findIn K (.ref C_Tally) "__class__" = some (some (.builtin "object.__class__")))
    (lq_Tally : FnF K "__eq__" "Tally.__eq__" (inClass (topS 20) 1) q_Tally)
    (z_isInt : PySem.W.nsIn K mainGlobals "is_int" = some (some (.ref g_isInt)))
    (y_isInt : FnF K "is_int" "is_int" s_isInt g_isInt)
    (z_isNumber : PySem.W.nsIn K mainGlobals "is_number" = some (some (.ref g_isNumber)))
    (y_isNumber : FnF K "is_number" "is_number" s_isNumber g_isNumber)
    (z_isName : PySem.W.nsIn K mainGlobals "is_name" = some (some (.ref g_isName)))
    (y_isName : FnF K "is_name" "is_name" s_isName g_isName)
    (z_isTupleOf : PySem.W.nsIn K mainGlobals "is_tuple_of" = some (some (.ref g_isTupleOf)))
    (y_isTupleOf : FnF K "is_tuple_of" "is_tuple_of" s_isTupleOf g_isTupleOf)
    (z_isMany : PySem.W.nsIn K mainGlobals "is_many" = some (some (.ref g_isMany)))
    (y_isMany : FnF K "is_many" "is_many" s_isMany g_isMany)
    (z_mayFollow : PySem.W.nsIn K mainGlobals "may_follow" = some (some (.ref g_mayFollow)))
    (y_mayFollow : FnF K "may_follow" "may_follow" s_mayFollow g_mayFollow)
    (z_formFault : PySem.W.nsIn K mainGlobals "form_fault" = some (some (.ref g_formFault)))
    (y_formFault : FnF K "form_fault" "form_fault" s_formFault g_formFault)
    (z_isForm : PySem.W.nsIn K mainGlobals "is_form" = some (some (.ref g_isForm)))
    (y_isForm : FnF K "is_form" "is_form" s_isForm g_isForm)
    (z_areAnswers : PySem.W.nsIn K mainGlobals "are_answers" = some (some (.ref g_areAnswers)))
    (y_areAnswers : FnF K "are_answers" "are_answers" s_areAnswers g_areAnswers)
    (z_isSheet : PySem.W.nsIn K mainGlobals "is_sheet" = some (some (.ref g_isSheet)))
    (y_isSheet : FnF K "is_sheet" "is_sheet" s_isSheet g_isSheet)
    (z_isWord : PySem.W.nsIn K mainGlobals "is_word" = some (some (.ref g_isWord)))
    (y_isWord : FnF K "is_word" "is_word" s_isWord g_isWord)
    (z_needLetter : PySem.W.nsIn K mainGlobals "need_letter" = some (some (.ref g_needLetter)))
    (y_needLetter : FnF K "need_letter" "need_letter" s_needLetter g_needLetter)
    (z_areWords : PySem.W.nsIn K mainGlobals "are_words" = some (some (.ref g_areWords)))
    (y_areWords : FnF K "are_words" "are_words" s_areWords g_areWords)
    (z_isRow : PySem.W.nsIn K mainGlobals "is_row" = some (some (.ref g_isRow)))
    (y_isRow : FnF K "is_row" "is_row" s_isRow g_isRow)
    (z_tallyFault : PySem.W.nsIn K mainGlobals "tally_fault" = some (some (.ref g_tallyFault)))
    (y_tallyFault : FnF K "tally_fault" "tally_fault" s_tallyFault g_tallyFault)
    (z_needTally : PySem.W.nsIn K mainGlobals "need_tally" = some (some (.ref g_needTally)))
    (y_needTally : FnF K "need_tally" "need_tally" s_needTally g_needTally)
    (z_isTally : PySem.W.nsIn K mainGlobals "is_tally" = some (some (.ref g_isTally)))
    (y_isTally : FnF K "is_tally" "is_tally" s_isTally g_isTally)
    (z_source : PySem.W.nsIn K mainGlobals "_law_source" = some (some (.ref g_source)))
    (y_source : FnF K "_law_source" "_law_source" s_source g_source)
    (z_any : PySem.W.nsIn K mainGlobals "_law_any" = some (some (.ref g_any)))
    (y_any : FnF K "_law_any" "_law_any" s_any g_any)
    (z_of : PySem.W.nsIn K mainGlobals "_law_of" = some (some (.ref g_of)))
    (y_of : FnF K "_law_of" "_law_of" s_of g_of)
    (z_lname : PySem.W.nsIn K mainGlobals "_law_name" = some (some (.ref g_lname)))
    (y_lname : FnF K "_law_name" "_law_name" s_lname g_lname)
    (z_lnames : PySem.W.nsIn K mainGlobals "_law_names" = some (some (.ref g_lnames)))
    (y_lnames : FnF K "_law_names" "_law_names" s_lnames g_lnames)
    (z_lform : PySem.W.nsIn K mainGlobals "_law_form" = some (some (.ref g_lform)))
    (y_lform : FnF K "_law_form" "_law_form" s_lform g_lform)
    (z_lrows : PySem.W.nsIn K mainGlobals "_law_rows" = some (some (.ref g_lrows)))
    (y_lrows : FnF K "_law_rows" "_law_rows" s_lrows g_lrows)
    (z_lletters : PySem.W.nsIn K mainGlobals "_law_letters" = some (some (.ref g_lletters)))
    (y_lletters : FnF K "_law_letters" "_law_letters" s_lletters g_lletters)
    (z_due : PySem.W.nsIn K mainGlobals "_law_due" = some (some (.ref g_due)))
    (y_due : FnF K "_law_due" "_law_due" s_due g_due)
    (z_once : PySem.W.nsIn K mainGlobals "_law_once" = some (some (.ref g_once)))
    (y_once : FnF K "_law_once" "_law_once" s_once g_once)
    (z_thing : PySem.W.nsIn K mainGlobals "_law_thing" = some (some (.ref g_thing)))
    (y_thing : FnF K "_law_thing" "_law_thing" s_thing g_thing)
    (z_bent : PySem.W.nsIn K mainGlobals "_law_bent" = some (some (.ref g_bent)))
    (y_bent : FnF K "_law_bent" "_law_bent" s_bent g_bent)
    (z_lisNum : PySem.W.nsIn K mainGlobals "_law_is_number" = some (some (.ref g_lisNum)))
    (y_lisNum : FnF K "_law_is_number" "_law_is_number" s_lisNum g_lisNum)
    (z_lisWord : PySem.W.nsIn K mainGlobals "_law_is_word" = some (some (.ref g_lisWord)))
    (y_lisWord : FnF K "_law_is_word" "_law_is_word" s_lisWord g_lisWord)
    (z_lisLetter : PySem.W.nsIn K mainGlobals "_law_is_letter" = some (some (.ref g_lisLetter)))
    (y_lisLetter : FnF K "_law_is_letter" "_law_is_letter" s_lisLetter g_lisLetter)
    (z_lisRow : PySem.W.nsIn K mainGlobals "_law_is_row" = some (some (.ref g_lisRow)))
    (y_lisRow : FnF K "_law_is_row" "_law_is_row" s_lisRow g_lisRow)
    (z_wrong : PySem.W.nsIn K mainGlobals "_law_wrong" = some (some (.ref g_wrong)))
    (y_wrong : FnF K "_law_wrong" "_law_wrong" s_wrong g_wrong)
    (z_told : PySem.W.nsIn K mainGlobals "_law_told" = some (some (.ref g_told)))
    (y_told : FnF K "_law_told" "_law_told" s_told g_told)
    (z_lheard : PySem.W.nsIn K mainGlobals "_law_heard" = some (some (.ref g_lheard)))
    (y_lheard : FnF K "_law_heard" "_law_heard" s_lheard g_lheard)
    (z_law : PySem.W.nsIn K mainGlobals "law" = some (some (.ref g_law)))
    (y_law : FnF K "law" "law" s_law g_law)
    (o_int : PySem.W.nsIn K mainGlobals "int" = some none)
    (o_isinstance : PySem.W.nsIn K mainGlobals "isinstance" = some none)
    (o_bool : PySem.W.nsIn K mainGlobals "bool" = some none)
    (o_str : PySem.W.nsIn K mainGlobals "str" = some none)
    (o_len : PySem.W.nsIn K mainGlobals "len" = some none)
    (o_tuple : PySem.W.nsIn K mainGlobals "tuple" = some none)
    (o_enumerate : PySem.W.nsIn K mainGlobals "enumerate" = some none)
    (o_zip : PySem.W.nsIn K mainGlobals "zip" = some none)
    (o_range : PySem.W.nsIn K mainGlobals "range" = some none)
    (o_sorted : PySem.W.nsIn K mainGlobals "sorted" = some none)
    (o_max : PySem.W.nsIn K mainGlobals "max" = some none)
    (o_list : PySem.W.nsIn K mainGlobals "list" = some none)
    (o_repr : PySem.W.nsIn K mainGlobals "repr" = some none)
    (o_abs : PySem.W.nsIn K mainGlobals "abs" = some none)
    (z_MOST_QUESTIONS : PySem.W.nsIn K mainGlobals "MOST_QUESTIONS" = some (some (.int 8 t_MOST_QUESTIONS)))
    (ne1 : C_InvalidSheets ≠ C_InvalidSize)
    (ne2 : C_InvalidSheets ≠ C_InvalidForm)
    (ne3 : C_InvalidSize ≠ C_BlankError)
    (ne4 : C_InvalidForm ≠ C_BlankError)
    (ne5 : C_InvalidSheets ≠ C_BlankError)
    (u0 : PySem.W.kitOne K (.type "NoneType") (.ref C_Form) = some false)
    (u1 : PySem.W.kitOne K (.type "bool") (.ref C_Form) = some false)
    (u2 : PySem.W.kitOne K (.type "int") (.ref C_Form) = some false)
    (u3 : PySem.W.kitOne K (.type "str") (.ref C_Form) = some false)
    (u4 : PySem.W.kitOne K (.type "list") (.ref C_Form) = some false)
    (u5 : PySem.W.kitOne K (.type "tuple") (.ref C_Form) = some false)
    (u6 : PySem.W.kitOne K (.type "dict") (.ref C_Form) = some false)
    (w0 : PySem.W.kitOne K (.type "NoneType") (.ref C_Tally) = some false)
    (w1 : PySem.W.kitOne K (.type "bool") (.ref C_Tally) = some false)
    (w2 : PySem.W.kitOne K (.type "int") (.ref C_Tally) = some false)
    (w3 : PySem.W.kitOne K (.type "str") (.ref C_Tally) = some false)
    (w4 : PySem.W.kitOne K (.type "list") (.ref C_Tally) = some false)
    (w5 : PySem.W.kitOne K (.type "tuple") (.ref C_Tally) = some false)
    (w6 : PySem.W.kitOne K (.type "dict") (.ref C_Tally) = some false)
    : ∀ base : Heap, K.In base → base.Ns mainGlobals mg → ∃ fd : FuncData, (∀ (s : Shared) (v : Value), BindsTo s fd ⟨[v], []⟩ [("script", v)]) ∧ FnG l.prog w K mg base CX0 10 fa fd ["script"] (Wb.spLaw K) := by
  have T_BlankError : ErrC K C_BlankError := e_BlankError.err PySem.F.excBase_Exception PySem.F.store_Exception ⟨by decide, by decide, by decide⟩ rfl hn ht
  have T_InvalidForm : ErrC K C_InvalidForm := e_InvalidForm.err PySem.F.excBase_Exception PySem.F.store_Exception ⟨rfl, rfl, rfl⟩ rfl hn ht
  obtain ⟨_, _, _, _, _, _, F_InvalidForm⟩ := l_InvalidForm.fn
  have b_InvalidForm := F_InvalidForm.binds (ps := ["self", "at"]) fun _ _ _ _ _ _ us hl => match us, hl with | [_, _], _ => rfl
  have T_InvalidSheets : ErrC K C_InvalidSheets := e_InvalidSheets.err PySem.F.excBase_Exception PySem.F.store_Exception ⟨rfl, rfl, rfl⟩ rfl hn ht
  obtain ⟨_, _, _, _, _, _, F_InvalidSheets⟩ := l_InvalidSheets.fn
  have b_InvalidSheets := F_InvalidSheets.binds (ps := ["self", "at"]) fun _ _ _ _ _ _ us hl => match us, hl with | [_, _], _ => rfl
  have T_InvalidSize : ErrC K C_InvalidSize := e_InvalidSize.err PySem.F.excBase_Exception PySem.F.store_Exception ⟨rfl, rfl, rfl⟩ rfl hn ht
  obtain ⟨_, _, _, _, _, _, F_InvalidSize⟩ := l_InvalidSize.fn
  have b_InvalidSize := F_InvalidSize.binds (ps := ["self", "word"]) fun _ _ _ _ _ _ us hl => match us, hl with | [_, _], _ => rfl
  obtain ⟨_, _, _, _, _, _, F_Form⟩ := l_Form.fn
  have b_Form := F_Form.binds (ps := ["self", "questions"]) fun _ _ _ _ _ _ us hl => match us, hl with | [_, _], _ => rfl
  have cls_Form : Cls K C_Form := ⟨pg_Form, hd_Form, po_Form, sa_Form⟩
  obtain ⟨_, _, _, _, _, _, Q_Form⟩ := lq_Form.fn
  have bq_Form := Q_Form.binds (ps := ["self", "other"]) fun _ _ _ _ _ _ us hl => match us, hl with | [_, _], _ => rfl
  obtain ⟨_, _, _, _, _, _, F_Tally⟩ := l_Tally.fn
  have b_Tally := F_Tally.binds (ps := ["self", "form", "rows"]) fun _ _ _ _ _ _ us hl => match us, hl with | [_, _, _], _ => rfl
  have cls_Tally : Cls K C_Tally := ⟨pg_Tally, hd_Tally, po_Tally, sa_Tally⟩
  obtain ⟨_, _, _, _, _, _, Q_Tally⟩ := lq_Tally.fn
  have bq_Tally := Q_Tally.binds (ps := ["self", "other"]) fun _ _ _ _ _ _ us hl => match us, hl with | [_, _], _ => rfl
  have D_isInt : Def K mg "is_int" s_isInt ["value"] := FnF.def_ X G z_isInt y_isInt (fun _ _ _ _ _ _ us hl => match us, hl with | [_], _ => rfl)
  have D_isNumber : Def K mg "is_number" s_isNumber ["value"] := FnF.def_ X G z_isNumber y_isNumber (fun _ _ _ _ _ _ us hl => match us, hl with | [_], _ => rfl)
  have D_isName : Def K mg "is_name" s_isName ["value"] := FnF.def_ X G z_isName y_isName (fun _ _ _ _ _ _ us hl => match us, hl with | [_], _ => rfl)
  have D_isTupleOf : Def K mg "is_tuple_of" s_isTupleOf ["value", "many"] := FnF.def_ X G z_isTupleOf y_isTupleOf (fun _ _ _ _ _ _ us hl => match us, hl with | [_, _], _ => rfl)
  have D_isMany : Def K mg "is_many" s_isMany ["value"] := FnF.def_ X G z_isMany y_isMany (fun _ _ _ _ _ _ us hl => match us, hl with | [_], _ => rfl)
  have D_mayFollow : Def K mg "may_follow" s_mayFollow ["ahead", "value"] := FnF.def_ X G z_mayFollow y_mayFollow (fun _ _ _ _ _ _ us hl => match us, hl with | [_, _], _ => rfl)
  have D_formFault : Def K mg "form_fault" s_formFault ["value"] := FnF.def_ X G z_formFault y_formFault (fun _ _ _ _ _ _ us hl => match us, hl with | [_], _ => rfl)
  have D_isForm : Def K mg "is_form" s_isForm ["value"] := FnF.def_ X G z_isForm y_isForm (fun _ _ _ _ _ _ us hl => match us, hl with | [_], _ => rfl)
  have D_areAnswers : Def K mg "are_answers" s_areAnswers ["form", "value", "least"] := FnF.def_ X G z_areAnswers y_areAnswers (fun _ _ _ _ _ _ us hl => match us, hl with | [_, _, _], _ => rfl)
  have D_isSheet : Def K mg "is_sheet" s_isSheet ["form", "value"] := FnF.def_ X G z_isSheet y_isSheet (fun _ _ _ _ _ _ us hl => match us, hl with | [_, _], _ => rfl)
  have D_isWord : Def K mg "is_word" s_isWord ["form", "value"] := FnF.def_ X G z_isWord y_isWord (fun _ _ _ _ _ _ us hl => match us, hl with | [_, _], _ => rfl)
  have D_needLetter : Def K mg "need_letter" s_needLetter ["form", "value"] := FnF.def_ X G z_needLetter y_needLetter (fun _ _ _ _ _ _ us hl => match us, hl with | [_, _], _ => rfl)
  have D_areWords : Def K mg "are_words" s_areWords ["form", "value"] := FnF.def_ X G z_areWords y_areWords (fun _ _ _ _ _ _ us hl => match us, hl with | [_, _], _ => rfl)
  have D_isRow : Def K mg "is_row" s_isRow ["form", "value"] := FnF.def_ X G z_isRow y_isRow (fun _ _ _ _ _ _ us hl => match us, hl with | [_, _], _ => rfl)
  have D_tallyFault : Def K mg "tally_fault" s_tallyFault ["value"] := FnF.def_ X G z_tallyFault y_tallyFault (fun _ _ _ _ _ _ us hl => match us, hl with | [_], _ => rfl)
  have D_needTally : Def K mg "need_tally" s_needTally ["value"] := FnF.def_ X G z_needTally y_needTally (fun _ _ _ _ _ _ us hl => match us, hl with | [_], _ => rfl)
  have D_isTally : Def K mg "is_tally" s_isTally ["value"] := FnF.def_ X G z_isTally y_isTally (fun _ _ _ _ _ _ us hl => match us, hl with | [_], _ => rfl)
  have D_source : Def K mg "_law_source" s_source ["script"] := FnF.def_ X G z_source y_source (fun _ _ _ _ _ _ us hl => match us, hl with | [_], _ => rfl)
  have D_any : Def K mg "_law_any" s_any ["deal", "bound"] := FnF.def_ X G z_any y_any (fun _ _ _ _ _ _ us hl => match us, hl with | [_, _], _ => rfl)
  have D_of : Def K mg "_law_of" s_of ["deal", "some"] := FnF.def_ X G z_of y_of (fun _ _ _ _ _ _ us hl => match us, hl with | [_, _], _ => rfl)
  have D_lname : Def K mg "_law_name" s_lname ["deal"] := FnF.def_ X G z_lname y_lname (fun _ _ _ _ _ _ us hl => match us, hl with | [_], _ => rfl)
  have D_lnames : Def K mg "_law_names" s_lnames ["deal", "many"] := FnF.def_ X G z_lnames y_lnames (fun _ _ _ _ _ _ us hl => match us, hl with | [_, _], _ => rfl)
  have D_lform : Def K mg "_law_form" s_lform ["deal", "most"] := FnF.def_ X G z_lform y_lform (fun _ _ _ _ _ _ us hl => match us, hl with | [_, _], _ => rfl)
  have D_lrows : Def K mg "_law_rows" s_lrows ["questions", "least"] := FnF.def_ X G z_lrows y_lrows (fun _ _ _ _ _ _ us hl => match us, hl with | [_, _], _ => rfl)
  have D_lletters : Def K mg "_law_letters" s_lletters ["deal", "questions", "many"] := FnF.def_ X G z_lletters y_lletters (fun _ _ _ _ _ _ us hl => match us, hl with | [_, _, _], _ => rfl)
  have D_due : Def K mg "_law_due" s_due ["letters"] := FnF.def_ X G z_due y_due (fun _ _ _ _ _ _ us hl => match us, hl with | [_], _ => rfl)
  have D_once : Def K mg "_law_once" s_once ["some"] := FnF.def_ X G z_once y_once (fun _ _ _ _ _ _ us hl => match us, hl with | [_], _ => rfl)
  have D_thing : Def K mg "_law_thing" s_thing ["deal"] := FnF.def_ X G z_thing y_thing (fun _ _ _ _ _ _ us hl => match us, hl with | [_], _ => rfl)
  have D_bent : Def K mg "_law_bent" s_bent ["deal", "row"] := FnF.def_ X G z_bent y_bent (fun _ _ _ _ _ _ us hl => match us, hl with | [_, _], _ => rfl)
  have D_lisNum : Def K mg "_law_is_number" s_lisNum ["value"] := FnF.def_ X G z_lisNum y_lisNum (fun _ _ _ _ _ _ us hl => match us, hl with | [_], _ => rfl)
  have D_lisWord : Def K mg "_law_is_word" s_lisWord ["questions", "value"] := FnF.def_ X G z_lisWord y_lisWord (fun _ _ _ _ _ _ us hl => match us, hl with | [_, _], _ => rfl)
  have D_lisLetter : Def K mg "_law_is_letter" s_lisLetter ["questions", "value"] := FnF.def_ X G z_lisLetter y_lisLetter (fun _ _ _ _ _ _ us hl => match us, hl with | [_, _], _ => rfl)
  have D_lisRow : Def K mg "_law_is_row" s_lisRow ["questions", "value"] := FnF.def_ X G z_lisRow y_lisRow (fun _ _ _ _ _ _ us hl => match us, hl with | [_, _], _ => rfl)
  have D_wrong : Def K mg "_law_wrong" s_wrong ["questions", "rows"] := FnF.def_ X G z_wrong y_wrong (fun _ _ _ _ _ _ us hl => match us, hl with | [_, _], _ => rfl)
  have D_told : Def K mg "_law_told" s_told ["value"] := FnF.def_ X G z_told y_told (fun _ _ _ _ _ _ us hl => match us, hl with | [_], _ => rfl)
  have D_lheard : Def K mg "_law_heard" s_lheard ["form", "value"] := FnF.def_ X G z_lheard y_lheard (fun _ _ _ _ _ _ us hl => match us, hl with | [_, _], _ => rfl)
  have D_law : Def K mg "law" s_law ["script"] := FnF.def_ X G z_law y_law (fun _ _ _ _ _ _ us hl => match us, hl with | [_], _ => rfl)
  have n_int := PySem.W.mg_none_of X G o_int
  have n_isinstance := PySem.W.mg_none_of X G o_isinstance
  have n_bool := PySem.W.mg_none_of X G o_bool
  have n_str := PySem.W.mg_none_of X G o_str
  have n_len := PySem.W.mg_none_of X G o_len
  have n_tuple := PySem.W.mg_none_of X G o_tuple
  have n_enumerate := PySem.W.mg_none_of X G o_enumerate
  have n_zip := PySem.W.mg_none_of X G o_zip
  have n_range := PySem.W.mg_none_of X G o_range
  have n_sorted := PySem.W.mg_none_of X G o_sorted
  have n_max := PySem.W.mg_none_of X G o_max
  have n_list := PySem.W.mg_none_of X G o_list
  have n_repr := PySem.W.mg_none_of X G o_repr
  have n_abs := PySem.W.mg_none_of X G o_abs
  have m_MOST_QUESTIONS := PySem.W.mg_of X G z_MOST_QUESTIONS
  intro base _ _
  have Z_BlankError : ErrB K mg "BlankError" C_BlankError topB := ⟨T_BlankError, PySem.W.mg_of X G aC_BlankError, e_BlankError.chain⟩
  have Z_InvalidForm : Err l.prog w K mg base "InvalidForm" "at" C_InvalidForm (topE C_BlankError) := ⟨T_InvalidForm, PySem.W.mg_of X G aC_InvalidForm, e_InvalidForm.chain, no_InvalidForm, f_InvalidForm, _, a_InvalidForm, t_InvalidForm, ini_InvalidForm F_InvalidForm T_InvalidForm no_InvalidForm, b_InvalidForm⟩
  have Z_InvalidSheets : Err l.prog w K mg base "InvalidSheets" "at" C_InvalidSheets (topE C_BlankError) := ⟨T_InvalidSheets, PySem.W.mg_of X G aC_InvalidSheets, e_InvalidSheets.chain, no_InvalidSheets, f_InvalidSheets, _, a_InvalidSheets, t_InvalidSheets, ini_InvalidSheets F_InvalidSheets T_InvalidSheets no_InvalidSheets, b_InvalidSheets⟩
  have Z_InvalidSize : Err l.prog w K mg base "InvalidSize" "word" C_InvalidSize (topE C_BlankError) := ⟨T_InvalidSize, PySem.W.mg_of X G aC_InvalidSize, e_InvalidSize.chain, no_InvalidSize, f_InvalidSize, _, a_InvalidSize, t_InvalidSize, ini_InvalidSize F_InvalidSize T_InvalidSize no_InvalidSize, b_InvalidSize⟩
  have nas_Form : ∀ f ∈ [("questions" : Str)], NoAttr K C_Form f := fun f hf => by
    simp only [List.mem_cons, List.not_mem_nil, or_false] at hf
    rcases hf with rfl
    · exact na0_Form
  have K_Form : CalC l.prog w K mg base "Form" C_Form ["questions"] := ⟨cls_Form, PySem.W.mg_of X G aC_Form, nas_Form, f_Form, _, ⟨mk_Form, a_Form, fn_Form, kc_Form⟩, inic_Form F_Form cls_Form na0_Form, b_Form⟩
  have nas_Tally : ∀ f ∈ [("form" : Str), "rows"], NoAttr K C_Tally f := fun f hf => by
    simp only [List.mem_cons, List.not_mem_nil, or_false] at hf
    rcases hf with rfl | rfl
    · exact na0_Tally
    · exact na1_Tally
  have K_Tally : CalC l.prog w K mg base "Tally" C_Tally ["form", "rows"] := ⟨cls_Tally, PySem.W.mg_of X G aC_Tally, nas_Tally, f_Tally, _, ⟨mk_Tally, a_Tally, fn_Tally, kc_Tally⟩, inic_Tally F_Tally cls_Tally na0_Tally na1_Tally, b_Tally⟩
  have u_Form : NotC K C_Form := fun t ht => by
    simp only [List.mem_cons, List.not_mem_nil, or_false] at ht
    rcases ht with rfl | rfl | rfl | rfl | rfl | rfl | rfl
    · exact u0
    · exact u1
    · exact u2
    · exact u3
    · exact u4
    · exact u5
    · exact u6
  have u_Tally : NotC K C_Tally := fun t ht => by
    simp only [List.mem_cons, List.not_mem_nil, or_false] at ht
    rcases ht with rfl | rfl | rfl | rfl | rfl | rfl | rfl
    · exact w0
    · exact w1
    · exact w2
    · exact w3
    · exact w4
    · exact w5
    · exact w6
  have t_Form : IsiC K C_Form := ⟨ca_Form, hn, ht⟩
  have ne_Form : NoNe K C_Form := nea_Form
  have E_Form : CalE l.prog w K mg base 1 C_Form (sp_eqForm K C_Form) := ⟨q_Form, _, eq_form Q_Form n_isinstance K_Form t_Form u_Form, eqa_Form, eqf_Form, bq_Form⟩
  have t_Tally : IsiC K C_Tally := ⟨ca_Tally, hn, ht⟩
  have ne_Tally : NoNe K C_Tally := nea_Tally
  have E_Tally : CalE l.prog w K mg base 2 C_Tally (sp_eqTally K C_Form C_Tally) := ⟨q_Tally, _, eq_tally Q_Tally n_isinstance E_Form K_Tally t_Tally u_Tally, eqa_Tally, eqf_Tally, bq_Tally⟩
  have KR_Tally : CalCR l.prog w K mg base "Tally" C_Tally "form" "rows" := ⟨PySem.W.mg_of X G aC_Tally, f_Tally, _, ⟨mk_Tally, a_Tally, fn_Tally, kc_Tally⟩, inic_Tally F_Tally cls_Tally na0_Tally na1_Tally, kbr_of F_Tally fun _ _ _ _ _ _ us ws h1 h2 => match us, ws, h1, h2 with | [_], [_, _], _, _ => rfl⟩
  have C_isInt := ok_isInt (P := l.prog) (w := w) (base := base) D_isInt n_int n_isinstance n_bool
  have C_isNumber := ok_isNumber (P := l.prog) (w := w) (base := base) D_isNumber C_isInt
  have C_isName := ok_isName (P := l.prog) (w := w) (base := base) D_isName n_str n_isinstance n_len
  have C_isTupleOf := ok_isTupleOf (P := l.prog) (w := w) (base := base) D_isTupleOf n_tuple n_isinstance n_len
  have C_isMany := ok_isMany (P := l.prog) (w := w) (base := base) D_isMany C_isInt
  have C_mayFollow := ok_mayFollow (P := l.prog) (w := w) (base := base) D_mayFollow C_isTupleOf C_isName C_isMany n_len
  have C_formFault := ok_formFault (P := l.prog) (w := w) (base := base) D_formFault K_Form n_isinstance n_tuple n_len m_MOST_QUESTIONS n_enumerate C_mayFollow t_Form u_Form
  have C_isForm := ok_isForm (P := l.prog) (w := w) (base := base) D_isForm C_formFault
  have C_areAnswers := ok_areAnswers (P := l.prog) (w := w) (base := base) D_areAnswers C_isTupleOf n_len n_zip C_isInt K_Form
  have C_isSheet := ok_isSheet (P := l.prog) (w := w) (base := base) D_isSheet C_areAnswers
  have C_isWord := ok_isWord (P := l.prog) (w := w) (base := base) D_isWord C_isTupleOf C_isSheet
  have C_needLetter := ok_needLetter (P := l.prog) (w := w) (base := base) D_needLetter C_isTupleOf C_isNumber C_isWord Z_InvalidSize
  have C_areWords := ok_areWords (P := l.prog) (w := w) (base := base) D_areWords n_tuple n_isinstance n_len n_enumerate C_isWord
  have C_isRow := ok_isRow (P := l.prog) (w := w) (base := base) D_isRow C_isTupleOf C_isNumber C_areWords
  have C_tallyFault := ok_tallyFault (P := l.prog) (w := w) (base := base) D_tallyFault K_Tally n_isinstance C_isForm n_tuple n_enumerate C_isRow t_Tally u_Tally
  have C_needTally := ok_needTally (P := l.prog) (w := w) (base := base) D_needTally C_tallyFault Z_InvalidSheets
  have C_isTally := ok_isTally (P := l.prog) (w := w) (base := base) D_isTally C_tallyFault
  have C_source := ok_source (P := l.prog) (w := w) (base := base) D_source n_int n_abs
  have C_any := ok_any (P := l.prog) (w := w) (base := base) D_any n_int
  have C_of := ok_of (P := l.prog) (w := w) (base := base) D_of C_any n_len
  have C_lname := ok_lname (P := l.prog) (w := w) (base := base) D_lname C_any C_of n_range
  have C_lnames := ok_lnames (P := l.prog) (w := w) (base := base) D_lnames n_range C_lname n_sorted
  have C_lform := ok_lform (P := l.prog) (w := w) (base := base) D_lform C_lnames C_any C_of n_tuple
  have C_lrows := ok_lrows (P := l.prog) (w := w) (base := base) D_lrows n_range
  have C_lletters := ok_lletters (P := l.prog) (w := w) (base := base) D_lletters C_lrows C_of n_range C_any
  have C_once := ok_once (P := l.prog) (w := w) (base := base) D_once 
  have C_due := ok_due (P := l.prog) (w := w) (base := base) D_due C_once n_sorted n_max n_tuple
  have C_thing := ok_thing (P := l.prog) (w := w) (base := base) D_thing C_of
  have C_bent := ok_bent (P := l.prog) (w := w) (base := base) D_bent C_any n_len C_of C_thing n_tuple n_isinstance n_list
  have C_lisNum := ok_lisNum (P := l.prog) (w := w) (base := base) D_lisNum n_int n_isinstance n_bool
  have C_lisWord := ok_lisWord (P := l.prog) (w := w) (base := base) D_lisWord n_tuple n_isinstance n_len n_range n_int n_bool
  have C_lisLetter := ok_lisLetter (P := l.prog) (w := w) (base := base) D_lisLetter n_tuple n_isinstance n_len C_lisNum C_lisWord
  have C_lisRow := ok_lisRow (P := l.prog) (w := w) (base := base) D_lisRow n_tuple n_isinstance n_len C_lisNum C_lisWord n_range
  have C_wrong := ok_wrong (P := l.prog) (w := w) (base := base) D_wrong n_tuple n_isinstance n_range n_len C_lisRow
  have C_told := ok_told (P := l.prog) (w := w) (base := base) D_told C_needTally Z_BlankError n_isinstance Z_InvalidSize Z_InvalidForm Z_InvalidSheets ne1 ne2 ne3 ne4
  have C_lheard := ok_lheard (P := l.prog) (w := w) (base := base) D_lheard C_needLetter Z_BlankError n_isinstance Z_InvalidSheets Z_InvalidSize ne1 ne5
  have C_law := ok_law (P := l.prog) (w := w) (base := base) D_law C_source n_range C_lform K_Form C_lletters C_any C_bent C_thing n_repr C_lheard C_lisLetter C_needLetter C_due n_list C_of n_len n_tuple n_isinstance C_wrong K_Tally C_told C_isTally C_needTally KR_Tally E_Tally E_Form
  exact C_law.law hfa (fun _ _ _ _ _ _ s u => .of_eq rfl)
end K30
open PySem PySem.W PyProof.Rows in
set_option maxRecDepth 100000 in
set_option maxHeartbeats 0 in
theorem PySem.Challenge.cw_whyblank_k30_any_values_as_letters_and_t_holds : PySem.Challenge.rw_whyblank_k30_any_values_as_letters_and_t.Holds := by
  w_on; o_law; k_head; (case hw => w_witness2)
  k_fill
  refine Wb.walk2 (l := PySem.Challenge.rw_whyblank_k30_any_values_as_letters_and_t) (k := 10) ⟨rfl, by decide, by decide⟩ rfl rfl (fun w h Y => PySem.W.kIn_of Y) ?F
  case F =>
    intro w mg fa h KX G hmg
    refine' K30.all_mk KX G hmg ?aC_BlankError ?aC_InvalidForm ?aC_InvalidSheets ?aC_InvalidSize ?hn ?ht (Wb.EF.mk (Wb.ClsRow.mk2 ?r_BlankError) ?sa_BlankError ?ga_BlankError ?gg_BlankError ?ex_BlankError ?ty_BlankError ?hd_BlankError ?kp_BlankError ?hc_BlankError ?hm_BlankError) (Wb.EF.mk (Wb.ClsRow.mk2 ?r_InvalidForm) ?sa_InvalidForm ?ga_InvalidForm ?gg_InvalidForm ?ex_InvalidForm ?ty_InvalidForm ?hd_InvalidForm ?kp_InvalidForm ?hc_InvalidForm ?hm_InvalidForm) ?a_InvalidForm ?t_InvalidForm ?no_InvalidForm (Wb.FnF.mk2 ?li_InvalidForm ?ui_InvalidForm ?vi_InvalidForm) (Wb.EF.mk (Wb.ClsRow.mk2 ?r_InvalidSheets) ?sa_InvalidSheets ?ga_InvalidSheets ?gg_InvalidSheets ?ex_InvalidSheets ?ty_InvalidSheets ?hd_InvalidSheets ?kp_InvalidSheets ?hc_InvalidSheets ?hm_InvalidSheets) ?a_InvalidSheets ?t_InvalidSheets ?no_InvalidSheets (Wb.FnF.mk2 ?li_InvalidSheets ?ui_InvalidSheets ?vi_InvalidSheets) (Wb.EF.mk (Wb.ClsRow.mk2 ?r_InvalidSize) ?sa_InvalidSize ?ga_InvalidSize ?gg_InvalidSize ?ex_InvalidSize ?ty_InvalidSize ?hd_InvalidSize ?kp_InvalidSize ?hc_InvalidSize ?hm_InvalidSize) ?a_InvalidSize ?t_InvalidSize ?no_InvalidSize (Wb.FnF.mk2 ?li_InvalidSize ?ui_InvalidSize ?vi_InvalidSize) ?aC_Form ?pg_Form ?hd_Form ?po_Form ?sa_Form ?mk_Form ?kc_Form ?a_Form ?fn_Form ?na0_Form (Wb.FnF.mk2 ?li_Form ?ui_Form ?vi_Form) ?eqa_Form ?eqf_Form ?nea_Form ?ca_Form (Wb.FnF.mk2 ?jq_Form ?uq_Form ?vq_Form) ?aC_Tally ?pg_Tally ?hd_Tally ?po_Tally ?sa_Tally ?mk_Tally ?kc_Tally ?a_Tally ?fn_Tally ?na0_Tally ?na1_Tally (Wb.FnF.mk2 ?li_Tally ?ui_Tally ?vi_Tally) ?eqa_Tally ?eqf_Tally ?nea_Tally ?ca_Tally (Wb.FnF.mk2 ?jq_Tally ?uq_Tally ?vq_Tally) ?z_isInt (Wb.FnF.mk2 ?l_isInt ?u_isInt ?v_isInt) ?z_isNumber (Wb.FnF.mk2 ?l_isNumber ?u_isNumber ?v_isNumber) ?z_isName (Wb.FnF.mk2 ?l_isName ?u_isName ?v_isName) ?z_isTupleOf (Wb.FnF.mk2 ?l_isTupleOf ?u_isTupleOf ?v_isTupleOf) ?z_isMany (Wb.FnF.mk2 ?l_isMany ?u_isMany ?v_isMany) ?z_mayFollow (Wb.FnF.mk2 ?l_mayFollow ?u_mayFollow ?v_mayFollow) ?z_formFault (Wb.FnF.mk2 ?l_formFault ?u_formFault ?v_formFault) ?z_isForm (Wb.FnF.mk2 ?l_isForm ?u_isForm ?v_isForm) ?z_areAnswers (Wb.FnF.mk2 ?l_areAnswers ?u_areAnswers ?v_areAnswers) ?z_isSheet (Wb.FnF.mk2 ?l_isSheet ?u_isSheet ?v_isSheet) ?z_isWord (Wb.FnF.mk2 ?l_isWord ?u_isWord ?v_isWord) ?z_needLetter (Wb.FnF.mk2 ?l_needLetter ?u_needLetter ?v_needLetter) ?z_areWords (Wb.FnF.mk2 ?l_areWords ?u_areWords ?v_areWords) ?z_isRow (Wb.FnF.mk2 ?l_isRow ?u_isRow ?v_isRow) ?z_tallyFault (Wb.FnF.mk2 ?l_tallyFault ?u_tallyFault ?v_tallyFault) ?z_needTally (Wb.FnF.mk2 ?l_needTally ?u_needTally ?v_needTally) ?z_isTally (Wb.FnF.mk2 ?l_isTally ?u_isTally ?v_isTally) ?z_source (Wb.FnF.mk2 ?l_source ?u_source ?v_source) ?z_any (Wb.FnF.mk2 ?l_any ?u_any ?v_any) ?z_of (Wb.FnF.mk2 ?l_of ?u_of ?v_of) ?z_lname (Wb.FnF.mk2 ?l_lname ?u_lname ?v_lname) ?z_lnames (Wb.FnF.mk2 ?l_lnames ?u_lnames ?v_lnames) ?z_lform (Wb.FnF.mk2 ?l_lform ?u_lform ?v_lform) ?z_lrows (Wb.FnF.mk2 ?l_lrows ?u_lrows ?v_lrows) ?z_lletters (Wb.FnF.mk2 ?l_lletters ?u_lletters ?v_lletters) ?z_due (Wb.FnF.mk2 ?l_due ?u_due ?v_due) ?z_once (Wb.FnF.mk2 ?l_once ?u_once ?v_once) ?z_thing (Wb.FnF.mk2 ?l_thing ?u_thing ?v_thing) ?z_bent (Wb.FnF.mk2 ?l_bent ?u_bent ?v_bent) ?z_lisNum (Wb.FnF.mk2 ?l_lisNum ?u_lisNum ?v_lisNum) ?z_lisWord (Wb.FnF.mk2 ?l_lisWord ?u_lisWord ?v_lisWord) ?z_lisLetter (Wb.FnF.mk2 ?l_lisLetter ?u_lisLetter ?v_lisLetter) ?z_lisRow (Wb.FnF.mk2 ?l_lisRow ?u_lisRow ?v_lisRow) ?z_wrong (Wb.FnF.mk2 ?l_wrong ?u_wrong ?v_wrong) ?z_told (Wb.FnF.mk2 ?l_told ?u_told ?v_told) ?z_lheard (Wb.FnF.mk2 ?l_lheard ?u_lheard ?v_lheard) ?z_law (Wb.FnF.mk2 ?l_law ?u_law ?v_law) ?o_int ?o_isinstance ?o_bool ?o_str ?o_len ?o_tuple ?o_enumerate ?o_zip ?o_range ?o_sorted ?o_max ?o_list ?o_repr ?o_abs ?z_MOST_QUESTIONS ?ne1 ?ne2 ?ne3 ?ne4 ?ne5 ?u0 ?u1 ?u2 ?u3 ?u4 ?u5 ?u6 ?w0 ?w1 ?w2 ?w3 ?w4 ?w5 ?w6
    (case aC_BlankError => k_is)
    (case aC_InvalidForm => k_is)
    (case aC_InvalidSheets => k_is)
    (case aC_InvalidSize => k_is)
    (case hn => k_is)
    (case ht => k_is)
    (case r_BlankError => k_is)
    (case sa_BlankError => k_is)
    (case ga_BlankError => k_is)
    (case gg_BlankError => k_is)
    (case ex_BlankError => k_is)
    (case ty_BlankError => k_is)
    (case hd_BlankError => k_is)
    (case kp_BlankError => k_is)
    (case hc_BlankError => k_is)
    (case hm_BlankError => k_is)
    (case r_InvalidForm => k_is)
    (case sa_InvalidForm => k_is)
    (case ga_InvalidForm => k_is)
    (case gg_InvalidForm => k_is)
    (case ex_InvalidForm => k_is)
    (case ty_InvalidForm => k_is)
    (case hd_InvalidForm => k_is)
    (case kp_InvalidForm => k_is)
    (case hc_InvalidForm => k_is)
    (case hm_InvalidForm => k_is)
    (case a_InvalidForm => k_is)
    (case t_InvalidForm => k_is)
    (case no_InvalidForm => k_is)
    (case li_InvalidForm => k_is)
    (case ui_InvalidForm => k_is)
    (case vi_InvalidForm => k_is)
    (case r_InvalidSheets => k_is)
    (case sa_InvalidSheets => k_is)
    (case ga_InvalidSheets => k_is)
    (case gg_InvalidSheets => k_is)
    (case ex_InvalidSheets => k_is)
    (case ty_InvalidSheets => k_is)
    (case hd_InvalidSheets => k_is)
    (case kp_InvalidSheets => k_is)
    (case hc_InvalidSheets => k_is)
    (case hm_InvalidSheets => k_is)
    (case a_InvalidSheets => k_is)
    (case t_InvalidSheets => k_is)
    (case no_InvalidSheets => k_is)
    (case li_InvalidSheets => k_is)
    (case ui_InvalidSheets => k_is)
    (case vi_InvalidSheets => k_is)
    (case r_InvalidSize => k_is)
    (case sa_InvalidSize => k_is)
    (case ga_InvalidSize => k_is)
    (case gg_InvalidSize => k_is)
    (case ex_InvalidSize => k_is)
    (case ty_InvalidSize => k_is)
    (case hd_InvalidSize => k_is)
    (case kp_InvalidSize => k_is)
    (case hc_InvalidSize => k_is)
    (case hm_InvalidSize => k_is)
    (case a_InvalidSize => k_is)
    (case t_InvalidSize => k_is)
    (case no_InvalidSize => k_is)
    (case li_InvalidSize => k_is)
    (case ui_InvalidSize => k_is)
    (case vi_InvalidSize => k_is)
    (case aC_Form => k_is)
    (case pg_Form => k_is)
    (case hd_Form => k_is)
    (case po_Form => k_is)
    (case sa_Form => k_is)
    (case mk_Form => k_is)
    (case kc_Form => k_is)
    (case a_Form => k_is)
    (case fn_Form => k_is)
    (case na0_Form => k_is)
    (case li_Form => k_is)
    (case ui_Form => k_is)
    (case vi_Form => k_is)
    (case eqa_Form => k_is)
    (case eqf_Form => k_is)
    (case nea_Form => k_is)
    (case ca_Form => k_is)
    (case jq_Form => k_is)
    (case uq_Form => k_is)
    (case vq_Form => k_is)
    (case aC_Tally => k_is)
    (case pg_Tally => k_is)
    (case hd_Tally => k_is)
    (case po_Tally => k_is)
    (case sa_Tally => k_is)
    (case mk_Tally => k_is)
    (case kc_Tally => k_is)
    (case a_Tally => k_is)
    (case fn_Tally => k_is)
    (case na0_Tally => k_is)
    (case na1_Tally => k_is)
    (case li_Tally => k_is)
    (case ui_Tally => k_is)
    (case vi_Tally => k_is)
    (case eqa_Tally => k_is)
    (case eqf_Tally => k_is)
    (case nea_Tally => k_is)
    (case ca_Tally => k_is)
    (case jq_Tally => k_is)
    (case uq_Tally => k_is)
    (case vq_Tally => k_is)
    (case z_isInt => k_is)
    (case l_isInt => k_is)
    (case u_isInt => k_is)
    (case v_isInt => k_is)
    (case z_isNumber => k_is)
    (case l_isNumber => k_is)
    (case u_isNumber => k_is)
    (case v_isNumber => k_is)
    (case z_isName => k_is)
    (case l_isName => k_is)
    (case u_isName => k_is)
    (case v_isName => k_is)
    (case z_isTupleOf => k_is)
    (case l_isTupleOf => k_is)
    (case u_isTupleOf => k_is)
    (case v_isTupleOf => k_is)
    (case z_isMany => k_is)
    (case l_isMany => k_is)
    (case u_isMany => k_is)
    (case v_isMany => k_is)
    (case z_mayFollow => k_is)
    (case l_mayFollow => k_is)
    (case u_mayFollow => k_is)
    (case v_mayFollow => k_is)
    (case z_formFault => k_is)
    (case l_formFault => k_is)
    (case u_formFault => k_is)
    (case v_formFault => k_is)
    (case z_isForm => k_is)
    (case l_isForm => k_is)
    (case u_isForm => k_is)
    (case v_isForm => k_is)
    (case z_areAnswers => k_is)
    (case l_areAnswers => k_is)
    (case u_areAnswers => k_is)
    (case v_areAnswers => k_is)
    (case z_isSheet => k_is)
    (case l_isSheet => k_is)
    (case u_isSheet => k_is)
    (case v_isSheet => k_is)
    (case z_isWord => k_is)
    (case l_isWord => k_is)
    (case u_isWord => k_is)
    (case v_isWord => k_is)
    (case z_needLetter => k_is)
    (case l_needLetter => k_is)
    (case u_needLetter => k_is)
    (case v_needLetter => k_is)
    (case z_areWords => k_is)
    (case l_areWords => k_is)
    (case u_areWords => k_is)
    (case v_areWords => k_is)
    (case z_isRow => k_is)
    (case l_isRow => k_is)
    (case u_isRow => k_is)
    (case v_isRow => k_is)
    (case z_tallyFault => k_is)
    (case l_tallyFault => k_is)
    (case u_tallyFault => k_is)
    (case v_tallyFault => k_is)
    (case z_needTally => k_is)
    (case l_needTally => k_is)
    (case u_needTally => k_is)
    (case v_needTally => k_is)
    (case z_isTally => k_is)
    (case l_isTally => k_is)
    (case u_isTally => k_is)
    (case v_isTally => k_is)
    (case z_source => k_is)
    (case l_source => k_is)
    (case u_source => k_is)
    (case v_source => k_is)
    (case z_any => k_is)
    (case l_any => k_is)
    (case u_any => k_is)
    (case v_any => k_is)
    (case z_of => k_is)
    (case l_of => k_is)
    (case u_of => k_is)
    (case v_of => k_is)
    (case z_lname => k_is)
    (case l_lname => k_is)
    (case u_lname => k_is)
    (case v_lname => k_is)
    (case z_lnames => k_is)
    (case l_lnames => k_is)
    (case u_lnames => k_is)
    (case v_lnames => k_is)
    (case z_lform => k_is)
    (case l_lform => k_is)
    (case u_lform => k_is)
    (case v_lform => k_is)
    (case z_lrows => k_is)
    (case l_lrows => k_is)
    (case u_lrows => k_is)
    (case v_lrows => k_is)
    (case z_lletters => k_is)
    (case l_lletters => k_is)
    (case u_lletters => k_is)
    (case v_lletters => k_is)
    (case z_due => k_is)
    (case l_due => k_is)
    (case u_due => k_is)
    (case v_due => k_is)
    (case z_once => k_is)
    (case l_once => k_is)
    (case u_once => k_is)
    (case v_once => k_is)
    (case z_thing => k_is)
    (case l_thing => k_is)
    (case u_thing => k_is)
    (case v_thing => k_is)
    (case z_bent => k_is)
    (case l_bent => k_is)
    (case u_bent => k_is)
    (case v_bent => k_is)
    (case z_lisNum => k_is)
    (case l_lisNum => k_is)
    (case u_lisNum => k_is)
    (case v_lisNum => k_is)
    (case z_lisWord => k_is)
    (case l_lisWord => k_is)
    (case u_lisWord => k_is)
    (case v_lisWord => k_is)
    (case z_lisLetter => k_is)
    (case l_lisLetter => k_is)
    (case u_lisLetter => k_is)
    (case v_lisLetter => k_is)
    (case z_lisRow => k_is)
    (case l_lisRow => k_is)
    (case u_lisRow => k_is)
    (case v_lisRow => k_is)
    (case z_wrong => k_is)
    (case l_wrong => k_is)
    (case u_wrong => k_is)
    (case v_wrong => k_is)
    (case z_told => k_is)
    (case l_told => k_is)
    (case u_told => k_is)
    (case v_told => k_is)
    (case z_lheard => k_is)
    (case l_lheard => k_is)
    (case u_lheard => k_is)
    (case v_lheard => k_is)
    (case z_law => k_is)
    (case l_law => k_is)
    (case u_law => k_is)
    (case v_law => k_is)
    (case o_int => k_is)
    (case o_isinstance => k_is)
    (case o_bool => k_is)
    (case o_str => k_is)
    (case o_len => k_is)
    (case o_tuple => k_is)
    (case o_enumerate => k_is)
    (case o_zip => k_is)
    (case o_range => k_is)
    (case o_sorted => k_is)
    (case o_max => k_is)
    (case o_list => k_is)
    (case o_repr => k_is)
    (case o_abs => k_is)
    (case z_MOST_QUESTIONS => k_is)
    (case ne1 => decide)
    (case ne2 => decide)
    (case ne3 => decide)
    (case ne4 => decide)
    (case ne5 => decide)
    (case u0 => kit_is)
    (case u1 => kit_is)
    (case u2 => kit_is)
    (case u3 => kit_is)
    (case u4 => kit_is)
    (case u5 => kit_is)
    (case u6 => kit_is)
    (case w0 => kit_is)
    (case w1 => kit_is)
    (case w2 => kit_is)
    (case w3 => kit_is)
    (case w4 => kit_is)
    (case w5 => kit_is)
    (case w6 => kit_is)
