import PyProof.Rows.All
import Wide.All
import OpenK.AllK
import Wide.FinOn
import HandS.ForMost
import HandS.ForExc
import HandS.Wide
import HandS.Ends
import HandS.ExcInit
import KE.KExcIs
import KE.KExcInit
import HandS.IsInst
import HandS.TryMany
import HandS.Style
import PyProof.ReprLen
import PyProof.ReprText
import HandS.Gcd
import HandS.WideMore
import HandS.WideBits
import PyProof.ReprBulk
import PyProof.FitsInt
import HandS.Deep
import HandS.TupAny
import HandS.Walk
import KE.SortData
import PyProof.P3In
import PyProof.StrOps2
import PyProof.Rows.SeqMore
import HandS.Conv
import HandS.Zip
import KE.GoesEnum
import PySem.Challenge.RW_whyblank_k04_whole_truths_lots_and_sheet
import PyProof.P3Eq
set_option Elab.async false
set_option linter.all false
set_option maxRecDepth 100000
set_option maxHeartbeats 4000000
/-! Wb0: repr of data, and calls whose surroundings run no repr (guards empty). -/
namespace Wb
open PySem PySem.Spec PyProof.Rows L2

/-! ### repr over data -/
def rShow (K : PySem.W.Frag) : List V → Hp → VK → Prop := fun xs H Q =>
  ∃ (x : V) (d : PyData), xs = [x] ∧ Dp K H x d ∧ d.showable = true ∧ d.hasDict = false ∧ d.depth ≤ 60 ∧ d.shown.length ≤ sizeLine ∧ Q (.str d.shown) H
section
variable {X : Cx}
theorem call_show (hg : X.A.guards = some []) (hu : X.A.units + 64 < cLine) : CallR X (.builtin "repr") (rShow X.K) := by
  intro pins s σ H xs us Q I rr hh
  obtain ⟨x, d, rfl, hd, hs, hn, hdep, hl, hq⟩ := hh
  cases rr with
  | cons r1 r2 =>
  cases r2
  rename_i u
  obtain ⟨as, rd⟩ := Dp.reads I d x u hd r1
  have done : ∀ (h' : Heap) (t tk : Nat), (∀ b o, s.heap.get? b = some o → h'.get? b = some o) → EP X pins σ Q (.str d.shown t) { s with heap := h', toks := tk } :=
    fun h' t tk kp => ⟨.str d.shown, H, I.kept kp, ⟨t, rfl⟩, hq⟩
  cases hd with
  | non =>
    obtain rfl : u = Value.none := r1
    simp only [PyData.shown] at done
    exact PySem.P.repr_of_none (done _ _ _ fun _ _ e => e)
  | bl b =>
    obtain rfl : u = Value.bool b := r1
    simp only [PyData.shown] at done
    exact PySem.P.repr_of_bool (done _ _ _ fun _ _ e => e)
  | int i =>
    obtain ⟨t, rfl⟩ := r1
    simp only [PyData.shown] at done
    exact PySem.P.repr_of_int (by simpa [PyData.showable] using hs) (done _ _ _ fun _ _ e => e)
  | str z =>
    obtain ⟨t, rfl⟩ := r1
    simp only [PyData.shown] at done
    exact PySem.P.repr_of_str (done _ _ _ fun _ _ e => e) (by simpa only [PyData.shown] using hl)
  | lst h1 h2 =>
    cases r1
    exact repr_of_reads' rd hs (PyData.noDict_hsm hn) hg (by omega) (fun _ _ e => e) (fun h' t tk kp => done h' t tk kp) hl
  | tup h1 h2 =>
    cases r1
    exact repr_of_reads' rd hs (PyData.noDict_hsm hn) hg (by omega) (fun _ _ e => e) (fun h' t tk kp => done h' t tk kp) hl
end

/-! ### a def that is called where no repr runs -/
structure FnG (P : Program) (w : World) (K : PySem.W.Frag) (mg : Str → Option Value) (base : Heap) (CX : CXT) (k : Nat) (f : Addr) (fd : FuncData) (ps : List Str) (sp : Sp) : Prop where
  arity : ∀ vs H Q E, sp vs H Q E → vs.length = ps.length
  go : ∀ (A : Around) (outer : List Env) (s : Shared) (H : Hp) (args : Args) (us : List Value) (vs : List V) (Q : VK) (E : XK),
    A.guards = some [] → Room k A → Env0 P w K mg base A outer s H → BindsTo s fd args (ps.zip us) → Vals vs us → sp vs H Q E →
    codeAny (model P w) A (.call (.ref f) args) (CR CX outer P w H s Q E) s

theorem FnG.of {P w K mg base CX k f fd ps sp} (F : FnOk P w K mg base CX k f fd ps sp) : FnG P w K mg base CX k f fd ps sp :=
  ⟨F.len, fun A outer s H args us vs Q E _ => F.run A outer s H args us vs Q E⟩

section
variable {P : Program} {w : World} {K : PySem.W.Frag} {mg : Str → Option Value} {base : Heap}
/-- the body of such a def, with the surroundings' guards told -/
theorem okG {CX : CXT} {x qual : Str} {st : Stmt} {f : Addr} {fd : FuncData} {N ps : List Str} {k : Nat} {sp : Sp} (F : Fun K x qual st f fd) (S : FnScope N ps (defScope st)) (ar : ∀ vs H Q E, sp vs H Q E → vs.length = ps.length)
    (body : ∀ (cdv : Value) (A : Around) (outer : List Env) (s : Shared) (H : Hp) (vs : List V) (Q : VK) (E : XK),
      (A.deeper (envOfC qual (defScope st) s.heap.objs.size f cdv)).guards = some [] → Room k (A.deeper (envOfC qual (defScope st) s.heap.objs.size f cdv)) → sp vs H Q E →
      ∃ t, PSs (cxOf CX P w K mg base N qual (defScope st) f cdv A outer s H E) (defBody st) t ∧ t { nx := fun _ H' => Q .non H', rt := Q } (start N vs) H) :
    FnG P w K mg base CX (k + 1) f fd ps sp := by
  obtain ⟨a1, a2, a3, a4, a5, a6, cdv, a8, a9, rfl, found, coded⟩ := F.ex
  refine ⟨ar, ?_⟩
  intro A outer s H args us vs Q E gd room env0 bnd rel want
  have many := ar _ _ _ _ want
  have inS : K.In s.heap := env0.mod.kin.keeps fun b o e => (env0.bs b o e).1
  have noLim : s.heap.NoLimit := env0.mod.nolimit.keeps fun b o e => (env0.bs b o e).1
  refine codeAny_call_function room.depth (inS _ _ found) rfl S.co S.gen rfl (PySem.W.codeRec_of inS coded) (bnd _ _ _ _ ?_)
  have kinds : ∀ y ∈ ps.zip us, (defScope st).names.lookup y.1 = some .local ∨
      ((defScope st).names.lookup y.1 = some .cell ∧ ((cellsFrom (s.heap.objs.size + 1) (defScope st).names []).lookup y.1).isSome = true) := by
    rintro ⟨n, v⟩ mem
    have hp := S.par n (List.of_mem_zip mem).1
    rcases hp with hp | hp
    · exact Or.inl hp
    · exact Or.inr ⟨hp, PySem.W.cellsFrom_some _ _ _ (Or.inl hp)⟩
  refine wpAny_newFunctionEnv_cells S.kind kinds ?_
  intro env isEnv s1 inCall
  subst isEnv
  refine ⟨noLim.keeps inCall.toInCall.keep, codeAny_func ?_⟩
  have gd2 : (A.deeper (envOfC qual (defScope st) s.heap.objs.size f cdv)).guards = some [] := gd
  obtain ⟨t, derived, holds⟩ := body cdv A outer s H vs Q E gd2 (room.deeper _) want
  have inv := inv_start (CX := CX) (E := E) (qual := qual) (cd := cdv) (f := f) S room.hd env0 many rel inCall
  refine wpAny_mono (derived.run [] s1 (start N vs) H _ inv holds) ?_ (fun _ _ z => z)
  intro fl s' got
  cases fl with
  | ret u =>
    obtain ⟨v, σ', H', J, rv, q⟩ := got
    exact ⟨v, H', J.os, J.bare, J.base, J.hok, rv, q⟩
  | next =>
    obtain ⟨σ', H', J, q⟩ := got
    exact ⟨V.non, H', J.os, J.bare, J.base, J.hok, rfl, q⟩
  | brk => obtain ⟨_, _, _, q⟩ := got; exact q.elim
  | cont => obtain ⟨_, _, _, q⟩ := got; exact q.elim
end

/-! ### calling it -/
section
variable {X : Cx} {CX : CXT} {k : Nat} {f : Addr} {fd : FuncData} {ps : List Str} {sp : Sp} {dvs : List V} {ds : List Value} {E : XK} {x : Str} {p pos : Pos} {e : Expr} {es : List Expr} {t : TA}
theorem runG {pins : List (Addr × Obj)} {σ : L2.St} {H : Hp} {s : Shared} {Q : VK} {us : List Value} {vs : List V} (F : FnG X.prog X.w X.K X.mg X.base CX k f fd ps sp) (gd : X.A.guards = some []) (hr : Room k X.A) (hb : Binds X.K fd ps ds) (hd : Vals dvs ds)
    (hx : Passes CX X E) (I : Inv X pins σ H s) (r : Vals vs us) (h : sp (vs ++ dvs) H Q E) : wpAny (model X.prog X.w) X.A (call (.ref f) us) (EP X pins σ Q) X.xe s := by
  have r2 := r.append hd
  have many : (us ++ ds).length = ps.length := r2.length.symm.trans (F.arity _ _ _ _ h)
  apply wpAny_call
  refine codeAny_mono (F.go X.A X.stack s H ⟨us, []⟩ _ _ Q E gd hr I.env0 (hb s us I.kIn many) r2 h) ?_
  intro res s' got
  match res, got with
  | .error er, got => exact hx pins σ H s er s' I got
  | .ok (.ret u), got => exact I.after got
theorem pe_callG (F : FnG X.prog X.w X.K X.mg X.base CX k f fd ps sp) (gd : X.A.guards = some []) (hr : Room k X.A) (hg : Gl X x) (hm : X.mg x = some (.ref f)) (hk : PySem.W.keepIn X.K (.ref f) = true) (hb : Binds X.K fd ps ds) (hd : Vals dvs ds)
    (hx : Passes CX X E) (ha : PA X (e :: es) t) (hdb : (x == ("__debug__" : Str)) = false := by decide) (he : starEach (e :: es) X.env = (false, eval e X.env) :: starEach es X.env := by rfl)
    (hpl : (backTo pos (starEach es X.env)).any (·.1) = false := by rfl) : PE X (.Call (.Name x p) (e :: es) [] pos) (tCall sp dvs E t) := by
  constructor
  intro pins s σ H Q I h
  apply wpAny_Call_Name_kw
  apply ld_glob I hg hm _ hdb
  refine PySem.W.callWith_K (h₀ := X.base) I.ok.mod.kin hk (thn (ha.run pos pins s σ H _ I h) ?_) he hpl
  rintro us s1 ⟨vs, H1, I1, r, q⟩
  exact ⟨I1.kIn, runG F gd hr hb hd hx I1 r q⟩
end
end Wb

set_option Elab.async false
set_option linter.all false
set_option maxRecDepth 100000
set_option maxHeartbeats 4000000
/-! Wb1: the law's own call, guards told. -/
namespace Wb
open PySem PySem.Spec PyProof.Rows L2

/-- the law's def, promised where no repr runs, called from outside -/
theorem lawG {P : Program} {w : World} {K : PySem.W.Frag} {mg mb : Str → Option Value} {CX : CXT} {k : Nat} {fa a : Addr} {fd : FuncData} {x : Str} {sp : Sp} {st : Shared} {vs : List Value} {ns : List Int}
    (inK : K.In st.heap) (names : st.heap.Ns mainGlobals mg) (bns : st.heap.Ns builtinsNs mb) (boot : ∀ x : Str, x ≠ "__name__" → mb x = bootBuiltins x) (lim : st.heap.NoLimit) (nogen : st.gens = #[])
    (atA : st.heap.get? a = some { cls := .type "list", data := .seq vs.toArray }) (areInts : IntsAre vs ns) (short : ns.length ≤ sizeLine) (room : Room k callerA)
    (F : ∀ base : Heap, K.In base → base.Ns mainGlobals mg → FnG P w K mg base CX k fa fd [x] sp) (bind1 : ∀ (s : Shared) (u : Value), BindsTo s fd ⟨[u], []⟩ [(x, u)])
    (want : ∀ H : Hp, Only H → SqL K H a (ns.map V.int) → sp [.ref a] H (fun v _ => v = .bl true) fun _ _ _ => False)
    (noX : ∀ H e s', CX [] H st (fun _ _ _ => False) e s' → False) :
    codeAny (model P w) callerA (.call (.ref fa) ⟨[.ref a], []⟩) (fun r s' => r = .ok (.ret (.bool true)) ∧ OldK st.heap s'.heap ∧ s'.os = st.os ∧ AllBare s'.gens) st := by
  have rel := vals_ints areInts
  have same := areInts.length
  -- what is told of any abstract heap that tracks the script at most
  suffices go : ∀ H : Hp, Only H → SqL K H a (ns.map V.int) → HOk P w H st.heap → (∀ b, H b ≠ none → b = a) → (H a ≠ none → K.lookup a = none) →
      codeAny (model P w) callerA (.call (.ref fa) ⟨[.ref a], []⟩) (fun r s' => r = .ok (.ret (.bool true)) ∧ OldK st.heap s'.heap ∧ s'.os = st.os ∧ AllBare s'.gens) st by
    rcases own : K.lookup a with _ | ob
    · -- the script is tracked, as a thing that stands still
      let frozen : HO := .frz { cls := .type "list", data := .seq vs.toArray } (.lst (ns.map V.int))
      refine go (fun b => if b = a then some frozen else none) ?_ ?_ ?_ ?_ (fun _ => own)
      · intro b
        by_cases e : b = a
        · exact Or.inr ⟨_, _, if_pos e⟩
        · exact Or.inl (if_neg e)
      · exact Or.inl (Or.inr ⟨_, if_pos rfl⟩)
      · intro b u e
        by_cases h : b = a
        · subst h
          cases (if_pos rfl).symm.trans e
          exact ⟨atA, by simpa using short, vs, _, rel, atA⟩
        · cases (if_neg h).symm.trans e
      · intro b e
        by_cases h : b = a
        · exact h
        · exact absurd (if_neg h) e
    · -- the script is one of the module's own objects
      have there := inK a ob own
      rw [atA] at there
      cases there
      refine go (fun _ => none) (fun _ => Or.inl rfl) ?_ (fun b u e => ?_) (fun b e => absurd rfl e) (fun e => absurd rfl e)
      · exact Or.inr ⟨_, vs.toArray, _, own, rfl, rfl, rfl, by rw [List.size_toArray, same]; exact short, by simpa using rel⟩
      · have e' : (none : Option HO) = some u := e
        cases e'
  intro H only seq ok just notK
  have keepB : ∀ {b : Addr} {o : Obj}, st.heap.get? b = some o → H b = none → (hidT st.heap H).get? b = some o := fun e n => hidT_get e n
  have dictFree : ∀ {b : Addr} {o : Obj} {es : Array DictEntry} {ep : Nat}, st.heap.get? b = some o → o.data = .dict es ep → H b = none := by
    intro b o es ep e d
    by_cases q : H b = none
    · exact q
    · have h := just b q
      subst h
      rw [atA] at e
      cases e
      have d' : Data.seq vs.toArray _ = Data.dict es ep := d
      cases d'
  have nsIn : ∀ {b : Addr} {m : Str → Option Value}, st.heap.Ns b m → (hidT st.heap H).Ns b m := by
    rintro b m ⟨o, es, ep, e, d, r⟩
    exact ⟨o, es, ep, keepB e (dictFree e d), d, r⟩
  have inBase : K.In (hidT st.heap H) := by
    intro b o e
    refine keepB (inK b o e) ?_
    by_cases q : H b = none
    · exact q
    · have h := just b q
      subst h
      rw [notK q] at e
      cases e
  have md : Mod K mg (hidT st.heap H) := by
    obtain ⟨mc, l1, l2⟩ := lim
    exact ⟨inBase, nsIn names, ⟨mb, nsIn bns, boot⟩, ⟨mc, nsIn l1, l2⟩⟩
  have env0 : Env0 P w K mg (hidT st.heap H) callerA [] st H :=
    ⟨rfl, md, fun b o e => of_hidT e, Nat.le_of_eq (hidT_size _ _), trivial, fun b hb => absurd (show b ∈ ([] : List Addr) from hb) (by simp), ok, .of_eq nogen⟩
  have ran := (F _ inBase (nsIn names)).go callerA [] st H ⟨[.ref a], []⟩ [.ref a] [.ref a] _ _ rfl room env0 (bind1 st (.ref a)) (.cons rfl .nil) (want H only seq)
  refine codeAny_mono ran ?_
  intro r s' h
  match r, h with
  | .error e, h => exact (noX H e s' h).elim
  | .ok (.ret u), h =>
    obtain ⟨v, H', os, bare, un, ok', rv, q⟩ := h
    have q' : v = .bl true := q
    subst q'
    obtain rfl : u = Value.bool true := rv
    refine ⟨rfl, OldK.of_keep ?_, os, bare⟩
    intro b o e
    by_cases q : H b = none
    · exact un.keep b o e q (fun z => absurd (show b ∈ ([] : List Addr) from z) (by simp)) (by simp)
    · rcases only b with z | ⟨ob, xs, z⟩
      · exact absurd z q
      · obtain ⟨e1, _⟩ := ok b _ z
        obtain ⟨e2, _⟩ := ok' b _ (un.frzs b ob _ z)
        rw [e] at e1
        cases e1
        exact e2

/-- the goal that the head leaves, from such a promise of the law's def -/
theorem walkG {l : PySem.W.OpenLaw} {n k : Nat} {q : Program} {loose : List Str} {XP : (Str → Option Value) → Heap → Prop} {YP : World → Heap → Prop} {d : DefRec} {K : Params → PySem.W.Frag} {CX : World → CXT} {sp : World → Sp} {x : Str}
    (h1 : l.most = some n) (h2 : n ≤ sizeLine) (h3 : d.params.defaults = []) (room : Room k callerA) (hY : ∀ (w : World) (h : Heap), YP w h → (K w.params).In h)
    (F : ∀ (w : World) (mg : Str → Option Value) (fa : Addr) (h : Heap), (K w.params).In h → h.Ns mainGlobals mg → mg d.name = some (.ref fa) →
      ∃ fd : FuncData, (∀ (s : Shared) (u : Value), BindsTo s fd ⟨[u], []⟩ [(x, u)]) ∧
        ∀ base : Heap, (K w.params).In base → base.Ns mainGlobals mg → FnG l.prog w (K w.params) mg base (CX w) k fa fd [x] (sp w))
    (want : ∀ (w : World) (H : Hp) (a : Addr) (ns : List Int), ns.length ≤ n → Only H → SqL (K w.params) H a (ns.map V.int) → sp w [.ref a] H (fun v _ => v = .bl true) fun _ _ _ => False)
    (noX : ∀ (w : World) (H : Hp) (s : Shared) (e : Value) (s' : Shared), CX w [] H s (fun _ _ _ => False) e s' → False) :
    PySem.W.WalkO q loose XP YP l.row.toRowW d [] (fun f vs => PySem.call f vs) := by
  apply Att.attach_call h1 h3
  intro w s₀ s₁ mg mb fa o pm cd doc a vs ns G Y ho hd hcd hmg hobj hints hlen hg
  have inK := hY w _ Y
  obtain ⟨fd, hb, hF⟩ := F w mg fa _ inK G.T.g hmg
  exact lawG inK G.T.g G.T.b G.T.builtins G.T.nolimit hg hobj hints (Nat.le_trans hlen h2) room hF hb (fun H hO hS => want w H a ns hlen hO hS) fun H e s' => noX w H s₁ e s'
end Wb

set_option Elab.async false
set_option linter.all false
set_option maxRecDepth 100000
set_option maxHeartbeats 4000000
/-! Wb2: own exceptions as values: made (by position and by name), their field read, isinstance. -/
namespace PySem
namespace WbE
open PySem.W PySem.Calls PyProof.Rows
section
variable {prog : Program} {w : World} {M : Model} {A : Around} {E : Value → Shared → Prop} {R : Result → Shared → Prop} {h : Heap} {g : Array GenState} {d : Drawn} {t : Nat} {os : OsState}
variable {nm q : Str} {C N : Addr} {bs bm bmB : List Value} {hdct : Bool} {sn : List Str} {sub : List Value} {ab : Bool} {col : Option Bool} {dd : Option Addr} {k0 k1 k2 k3 k5 : Option Value} {B newId initId : String}
variable {rest : List Value} {kw : List (Str × Value)}

/-- what is asked of the class's chain: the built-in base is in it, the two bases with members of their own are not -/
structure Chain (bm : List Value) (B : String) : Prop where
  base : bm.contains (.type B) = true
  noA : bm.contains (.type "AttributeError") = false
  noN : bm.contains (.type "NameError") = false

theorem checkNew (F : ExcBaseFacts B newId initId bmB) (ch : Chain bm B) {Q : Unit → Shared → Prop} (atC : h.get? C = some (excClassObj nm q C N bs bm hdct sn sub ab col dd k0 k1 k2 k3 k5 newId))
    (hq : Q () ⟨h, g, d, t, os⟩) : wpAny M A (checkBuiltinCall newId ⟨.ref C :: rest, kw⟩) Q E ⟨h, g, d, t, os⟩ := by
  have inB : (Value.ref C :: bm).contains (.type B) = true := by
    rw [List.contains_cons, ch.base, Bool.or_true]
  have star := F.noStar
  simp only [checkBuiltinCall, F.newKind, F.newSplit, F.newRow]
  repeat (first
    | refine wpAny_loadPart_at atC ?_
    | (refine wpAny_isSubtype_exc atC ?_; rw [inB])
    | refine wpAny_staticBase_exc atC ?_
    | refine wpAny_madeBy_exc atC ?_
    | simp only [bne_self_eq_false, Bool.false_eq_true, if_false]
    | wp_step)
  exact hq

theorem runNew (F : ExcBaseFacts B newId initId bmB) (ch : Chain bm B) (atC : h.get? C = some (excClassObj nm q C N bs bm hdct sn sub ab col dd k0 k1 k2 k3 k5 newId)) (short : rest.length ≤ sizeLine)
    (hq : R (.ok (.ret (.ref (h.objs.size + 1)))) ⟨(h.push (W.kdv_tup rest)).push (HandSPX.excO C h.objs.size), g, d, t, os⟩) :
    codeAny (model prog w) A (.builtin newId ⟨.ref C :: rest, kw⟩) R ⟨h, g, d, t, os⟩ := by
  have ends := F.ends
  have inB : (Value.ref C :: bm).contains (.type B) = true := by
    rw [List.contains_cons, ch.base, Bool.or_true]
  have outA : (Value.ref C :: bm).contains (.type "AttributeError") = false := by
    rw [List.contains_cons, ch.noA]
    rfl
  have outN : (Value.ref C :: bm).contains (.type "NameError") = false := by
    rw [List.contains_cons, ch.noN]
    rfl
  refine codeAny_builtinAt F.entry ?_
  unfold Builtin.«BaseException.__new__»
  apply wpAt_bind
  show wpAt _ _ _ (stack >>= _) _ _ _
  apply wpAt_bind
  apply wpAt_stack
  intro p below
  apply wpAt_of_wpAny
  wp_walk
  apply wpAt_of_wpAny
  rw [F.owner]
  repeat (first
    | with_reducible refine wpAny_madeHere_exc F.canon atC ?_
    | with_reducible refine wpAny_loadPart_at atC ?_
    | (with_reducible refine wpAny_isSubtype_exc atC ?_; first | rw [inB] | rw [outA] | rw [outN])
    | wp_step)
  show R _ _
  rw [Heap.size_push]
  exact hq

theorem runCall (F : ExcBaseFacts B newId initId bmB) (ch : Chain bm B) {iv : Value} {Q : Fin → Shared → Prop} (atC : h.get? C = some (excClassObj nm q C N bs bm hdct sn sub ab col dd k0 k1 k2 k3 k5 newId))
    (lk : W.Looks (model prog w) h (typeLookup (.ref C) "__init__") (some iv)) (bd : ∀ self, W.Looks (model prog w) h (bindSpecial iv self) (iv, [self])) (short : rest.length ≤ sizeLine)
    (hq : codeAny (model prog w) A (.call iv ⟨.ref (h.objs.size + 1) :: rest, kw⟩)
      (fun r s' => match r with
        | .ok (.ret v) => v = .none ∧ Q (.done (.ret (.ref (h.objs.size + 1)))) s'
        | .ok _ => False
        | .error e => E e s')
      ⟨(h.push (W.kdv_tup rest)).push (HandSPX.excO C h.objs.size), g, d, t, os⟩) :
    wpAny (model prog w) A (Builtin.«type.__call__» ⟨.ref C :: rest, kw⟩) Q E ⟨h, g, d, t, os⟩ := by
  repeat (first
    | with_reducible refine wpAny_loadPart_at atC ?_
    | with_reducible refine wpAny_madeBy_exc atC ?_
    | wp_step)
  refine codeAny_call_builtin_code (Code.quiet_builtin _ F.quiet) (checkNew F ch atC ?_)
  refine runNew F ch atC short ?_
  show wpAny _ _ _ _ _ _
  have grown : ∀ b o, h.get? b = some o → ((h.push (W.kdv_tup rest)).push (HandSPX.excO C h.objs.size)).get? b = some o :=
    fun b o e => Heap.get?_push_of_some _ (Heap.get?_push_of_some _ e)
  have atC1 := grown _ _ atC
  have made : ((h.push (W.kdv_tup rest)).push (HandSPX.excO C h.objs.size)).get? (h.objs.size + 1) = some (HandSPX.excO C h.objs.size) := by heap_get
  have self_ : (Value.ref C :: bm).contains (.ref C) = true := by simp
  have lk1 := lk.keeps grown
  have bd1 := (bd (.ref (h.objs.size + 1))).keeps grown
  unfold isInstance
  repeat (first
    | with_reducible refine wpAny_loadPart_at made ?_
    | (with_reducible refine wpAny_isSubtype_exc atC1 ?_; rw [self_])
    | wp_step)
  show wpAny _ _ (typeLookup (.ref C) _) _ _ _
  refine lk1.at ?_
  refine wpAny_holding (wpAny_bind (bd1.at ?_))
  apply wpAny_bind
  refine wpAny_call (codeAny_mono hq ?_)
  intro r s' z
  match r, z with
  | .error e, z => exact z
  | .ok (.ret v), z =>
    obtain ⟨rfl, z⟩ := z
    first
      | exact wpAny_pure (wpAny_pure z)
      | (wp_walk; exact z)

theorem callE (F : ExcBaseFacts B newId initId bmB) (ch : Chain bm B) {iv : Value} (atC : h.get? C = some (excClassObj nm q C N bs bm hdct sn sub ab col dd k0 k1 k2 k3 k5 newId))
    (lk : W.Looks (model prog w) h (typeLookup (.ref C) "__init__") (some iv)) (bd : ∀ self, W.Looks (model prog w) h (bindSpecial iv self) (iv, [self])) (short : rest.length ≤ sizeLine)
    (hq : codeAny (model prog w) (A.under (.builtin "type.__call__" ⟨.ref C :: rest, kw⟩)) (.call iv ⟨.ref (h.objs.size + 1) :: rest, kw⟩) (W.InitBack (h.objs.size + 1) R)
      ⟨(h.push (W.kdv_tup rest)).push (HandSPX.excO C h.objs.size), g, d, t, os⟩) :
    codeAny (model prog w) A (.call (.ref C) ⟨rest, kw⟩) R ⟨h, g, d, t, os⟩ := by
  have e1 := tc_lookup
  have e2 := tc_bind (.ref C)
  have isT : (⟨h, g, d, t, os⟩ : Shared).TypeIs (.ref C) "type" := ⟨_, atC, rfl⟩
  apply codeAny_of_tree
  show wpAny _ _ (callAny (.ref C) _) _ _ _
  repeat (any_goals (first
    | assumption
    | with_reducible refine wpAny_loadPart_at atC ?_
    | wp_step))
  refine ⟨rfl, ?_⟩
  refine codeAny_call_builtin_at (Code.quiet_builtin _ (by decide +kernel)) entry_typeCall ?_
  refine wpAny_check_type_call_sub atC ?_
  refine runCall F ch atC lk bd short (codeAny_mono hq ?_)
  intro r s' z
  match r, z with
  | .error e, z => exact z
  | .ok (.ret v), z => exact z
end
end WbE
end PySem

set_option Elab.async false
set_option linter.all false
set_option maxRecDepth 100000
set_option maxHeartbeats 4000000
/-! Wb3: own exceptions as tracked values. -/
namespace PySem.F
theorem storeKeyError : StoreFacts "KeyError"
    [.type "KeyError", .type "LookupError", .type "Exception", .type "BaseException", .type "object"]
    "object.__setattr__" "object" := by
  refine ⟨by kernel_rfl, ?_, entry_object_sa, by decide +kernel, by decide +kernel, by decide +kernel, ?_, fun _ => by kernel_rfl⟩
  · refine .of (owner := "object") (n := "__setattr__") ?_ (by decide +kernel) (by decide +kernel) (by decide +kernel) ?_ ?_
    · rw [typeLookup_type, builtinLookup_eq_fast]
      kernel_rfl
    · first
        | exact .inl (by decide +kernel)
        | exact .inr (by decide +kernel)
    · rw [isSubtype_type]
      kernel_rfl
  · intro a b c
    unfold argsOk
    kernel_rfl
end PySem.F
namespace PySem
namespace WbE
open PySem.W PySem.Calls PyProof.Rows
section
open Builtin Builtin.ObjectAttr
variable {prog : Program} {w : World} {A : Around} {R : Result → Shared → Prop} {hp : Heap} {g : Array GenState} {d : Drawn} {t : Nat} {os : OsState}
/-- the first field of an exception of an own class, whatever its built-in base -/
theorem setFirst {S : String} {bmS : List Value} {K : W.Frag} {name : Str} {tk : Tok} {v : Value} {x C : Addr} {fv : Array Value} {cd : ClassData} (SF : StoreFacts S bmS "object.__setattr__" "object")
    (X : K.In hp) (hx : hp.get? x = some { cls := .ref C, data := .fields fv }) (hcd : W.clsIn K C = some cd) (hd : cd.hasDict = true) (over : excOver K C bmS = true) (no : W.findIn K (.ref C) name = some none)
    (hq : ∀ h' tk' dx, (∀ b o, b ≠ x → hp.get? b = some o → h'.get? b = some o) → hp.objs.size ≤ dx → dx ≠ x →
      h'.get? x = some { cls := .ref C, dict := some dx, data := .fields fv } → h'.Ns1 dx (fun y => if y = name then some v else none) → R (.ok (.ret .none)) ⟨h', g, d, tk', os⟩) :
    codeAny (model prog w) A (.call (.builtin "object.__setattr__") ⟨[.ref x, .str name tk, v], []⟩) R ⟨hp, g, d, t, os⟩ := by
  have at_ : W.InstAt hp x { cls := .ref C, data := .fields fv } C none := ⟨hx, rfl, rfl, trivial⟩
  have ne : x ≠ hp.objs.size := Nat.ne_of_lt (Heap.lt_size hx)
  have look : W.Looks (model prog w) hp (classData C) cd := W.looks_clsIn X hcd
  have taker : W.takerIn K C name = some none := by
    unfold W.takerIn
    rw [no]
    rfl
  refine W.osa_openX (s := ⟨hp, g, d, t, os⟩) SF X at_ over taker fun b => ?_
  obtain ⟨c1, c2, c3, c4, c5, hasD, c7, c8, c9, c10, c11⟩ := cd
  dsimp only at hd
  subst hd
  unfold storeInOwnDict ownDictForStores
  repeat (first
    | with_reducible refine HandSPX.store_in_new ?_ ?_
    | with_reducible refine wpAny_loadPart_at hx ?_
    | with_reducible refine look.at ?_
    | wp_step)
  · exact ⟨_, #[], _, (Heap.get?_update_ne _ _ _ _ ne.symm).trans (Heap.get?_push_at rfl rfl), rfl, fun e he => absurd he (by simp), fun _ => rfl⟩
  · intro h' tk' ns' same
    have pushed : (hp.push { cls := .type "dict", data := .dict #[] }).get? x = some { cls := .ref C, data := .fields fv } := Heap.get?_push_of_some _ hx
    refine hq h' tk' hp.objs.size ?_ (Nat.le_refl _) ne.symm ?_ ns'
    · intro b o hb ho
      rw [same.2 b (Nat.ne_of_lt (Heap.lt_size ho)), Heap.get?_update_ne _ _ _ _ hb]
      exact Heap.get?_push_of_some _ ho
    · rw [same.2 x ne]
      exact Heap.get?_update_self _ pushed rfl
end
end WbE
end PySem

namespace Wb
open PySem PySem.Spec PyProof.Rows L2
/-- what the written part says of an own exception's class at C: made by newId (of the built-in B), the fields stored as S's chain stores them -/
structure ErrC (K : PySem.W.Frag) (C : Addr) : Prop where
  new : ∃ (B newId initId : String) (bmB : List Value) (nm q : Str) (N : Addr) (bs bm : List Value) (sn : List Str) (sub : List Value) (ab : Bool) (col : Option Bool) (dd : Option Addr) (k0 k1 k2 k3 k5 : Option Value),
    PySem.ExcBaseFacts B newId initId bmB ∧ PySem.WbE.Chain bm B ∧ K.lookup C = some (excClassObj nm q C N bs bm true sn sub ab col dd k0 k1 k2 k3 k5 newId)
  store : ∃ (S : String) (bmS : List Value), PySem.StoreFacts S bmS "object.__setattr__" "object" ∧ PySem.W.excOver K C bmS = true
  sa : PySem.W.findIn K (.ref C) "__setattr__" = some (some (.builtin "object.__setattr__"))
  ga : PySem.W.findIn K (.ref C) "__getattribute__" = some (some (.builtin "BaseException.__getattribute__"))
  gg : PySem.W.findIn K (.ref C) "__getattr__" = some none
  exc : PySem.W.subIn K (.ref C) (.type "BaseException") = some true
  ty : PySem.W.typeIn K (.ref C) = some (.type "type")
  hd : PySem.W.hasDictIn K C = true
  kp : PySem.W.keepIn K (.ref C) = true
  hc : PySem.W.findIn K (.ref C) "__class__" = some (some (.builtin "object.__class__"))
  hn : PySem.W.specialIn K (.builtin "object.__class__") "__get__" = some (some (.builtin "getset_descriptor.__get__"))
  ht : PySem.W.takesIn K (.builtin "object.__class__") = some true
  hm : PySem.W.mroIn K C (.type "object") = some true

section
variable {X : Cx} {pins : List (Addr × Obj)} {σ : L2.St} {H : Hp} {s : Shared} {a C dx fI : Addr} {f : Str} {y v : V} {u : Value} {fs : List (Str × V)} {A : Around} {k : Nat}
/-- self.f = y in an __init__, the first field -/
theorem setNew {Q : Unit → Shared → Prop} {E : Value → Shared → Prop} (T : ErrC X.K C) (I : Inv X pins σ H s) (e : H a = some (exo a C none)) (no : PySem.W.findIn X.K (.ref C) f = some none) (ry : RelV y u)
    (h : ∀ dx s', H dx = none → dx ≠ a → Inv X pins σ (upd (upd H dx (exd dx [(f, y)])) a (exo a C (some dx))) s' → Q () s') : wpAny (model X.prog X.w) A (setAttr (.ref a) f u) Q E s := by
  obtain ⟨B, newId, initId, bmB, nm, q, N, bs, bm, sn, sub, ab, col, dd, k0, k1, k2, k3, k5, _, _, atC⟩ := T.new
  obtain ⟨S, bmS, SF, over⟩ := T.store
  have cls : PySem.W.clsIn X.K C = some { name := nm, bases := bs, mro := .ref C :: bm, ns := N, qualname := q, hasDict := true, slotNames := sn, subclasses := sub, abstract := ab, collection := col, hasDel := false } := by
    unfold PySem.W.clsIn
    rw [atC] <;> rfl
  obtain ⟨t1, ho⟩ := exo_at I.hok e
  obtain ⟨hp, g, d, t, os⟩ := s
  refine PySem.W.set_plain I.kIn (ox := { cls := .ref C, dict := none, data := .fields #[.ref t1, .none, .none, .none, .bool false, .none] }) (od := none) ⟨ho, rfl, rfl, trivial⟩ T.sa ?_
  refine PySem.WbE.setFirst SF I.kIn ho cls rfl over no ?_
  intro h' tk' dx kept big ne hx ns'
  have free : H dx = none := I.hok.fresh big
  have old : ∀ {b : Addr} {o : Obj}, hp.get? b = some o → b ≠ dx := fun {b o} z => Nat.ne_of_lt (Nat.lt_of_lt_of_le (Heap.lt_size z) big)
  have notA : ∀ {b : Addr}, H b = none → b ≠ a := by
    intro b n z
    rw [z, e] at n
    cases n
  have un : Un X.fs [] H (upd (upd H dx (exd dx [(f, y)])) a (exo a C (some dx))) hp h' := by
    constructor
    · exact fun b o z n _ _ => kept b o (notA n) z
    · exact fun b o z n _ _ => ⟨o.slots, kept b o (notA n) z⟩
    · intro b o z n _
      rw [upd_ne (notA n), upd_ne (old z)]
      exact n
    · intro b o z _
      by_cases hb : b = a
      · exact ⟨_, by rw [hb]; exact hx⟩
      · exact ⟨o, kept b o hb z⟩
    · intro b xs z
      rw [upd_ne (at_ne e z exo_tup), upd_ne (ne_of_none z free)]
      exact z
    · intro b o w z
      rw [upd_ne (at_ne e z exo_frz), upd_ne (ne_of_none z free)]
      exact z
    · intro b ps z
      refine ⟨#[], ?_⟩
      rw [upd_ne (at_ne e z exo_tbl), upd_ne (ne_of_none z free), z]
      simp
  refine h dx _ free ne (I.un (t' := tk') un ?_)
  intro b o z
  by_cases hb : b = a
  · subst hb
    rw [upd_same] at z
    cases z
    exact exo_ok hx
  rw [upd_ne hb] at z
  by_cases hb2 : b = dx
  · subst hb2
    rw [upd_same] at z
    cases z
    exact exd_ok ns' (relO_put (fs := []) ry fun g => True.intro)
  rw [upd_ne hb2] at z
  refine (I.hok b o z).stay ?_ ?_ ?_
  · intro c w hc z2
    refine kept c w ?_ z2
    rcases hc with hc | hc
    · rw [hc]; exact hb
    · exact at_ne e hc exo_own
  · intro c hc
    rw [upd_ne (at_ne e hc exo_own), upd_ne (ne_of_none hc free)]
    exact hc
  · intro c xs hc
    rw [upd_ne (at_ne e hc exo_tup), upd_ne (ne_of_none hc free)]
    exact hc

/-- C(..), C(k = ..) with C's own __init__: an exception at a new address -/
theorem runErr {CX : CXT} {fd : FuncData} {ps : List Str} {sp : Sp} {us : List Value} {kw : List (Str × Value)} {vs : List V} {binds : List Value} {Q : VK} (T : ErrC X.K C) (iC : PySem.W.findIn X.K (.ref C) "__init__" = some (some (.ref fI)))
    (tI : PySem.W.typeIn X.K (.ref fI) = some (.type "function")) (F1 : FnOk X.prog X.w X.K X.mg X.base CX k fI fd ps sp) (room : Room (k + 1) X.A) (hx : Passes CX X (fun _ _ _ => False)) (I : Inv X pins σ H s) (short : us.length ≤ sizeLine)
    (bind : ∀ (s' : Shared) (a : Addr), X.K.In s'.heap → BindsTo s' fd ⟨.ref a :: us, kw⟩ (ps.zip (.ref a :: binds))) (rel : Vals vs binds)
    (h : ∀ a, H a = none → sp (.ref a :: vs) (upd H a (exo a C none)) (fun v H2 => v = .non ∧ Q (.ref a) H2) (fun _ _ _ => False)) :
    wpAny (model X.prog X.w) X.A (call (.ref C) us kw) (EP X pins σ Q) X.xe s := by
  obtain ⟨B, newId, initId, bmB, nm, q, N, bs, bm, sn, sub, ab, col, dd, k0, k1, k2, k3, k5, FB, ch, atC⟩ := T.new
  obtain ⟨hp, g, dr, tk, os⟩ := s
  have le1 : hp.objs.size ≤ hp.objs.size + 1 := Nat.le_succ _
  have free : H (hp.objs.size + 1) = none := I.hok.fresh le1
  have want := h _ free
  have grown : ∀ b o, hp.get? b = some o → ((hp.push (PySem.W.kdv_tup us)).push (PySem.HandSPX.excO C hp.objs.size)).get? b = some o :=
    fun b o e => Heap.get?_push_of_some _ (Heap.get?_push_of_some _ e)
  have made : ((hp.push (PySem.W.kdv_tup us)).push (PySem.HandSPX.excO C hp.objs.size)).get? (hp.objs.size + 1) = some (PySem.HandSPX.excO C hp.objs.size) := by heap_get
  have I2 : Inv X pins σ (upd H (hp.objs.size + 1) (exo (hp.objs.size + 1) C none)) ⟨(hp.push (PySem.W.kdv_tup us)).push (PySem.HandSPX.excO C hp.objs.size), g, dr, tk, os⟩ :=
    I.laid (t' := tk) (a := hp.objs.size + 1) (o := exo (hp.objs.size + 1) C none) (h' := (hp.push (PySem.W.kdv_tup us)).push (PySem.HandSPX.excO C hp.objs.size)) grown le1 (exo_ok made)
  have rel2 : Vals (V.ref (hp.objs.size + 1) :: vs) (Value.ref (hp.objs.size + 1) :: binds) := .cons rfl rel
  apply wpAny_call
  refine PySem.WbE.callE (iv := .ref fI) FB ch (I.kIn _ _ atC) (PySem.W.looks_findIn I.kIn iC) (fun self => PySem.W.bind_fn I.kIn self tI) short ?_
  refine codeAny_mono (F1.run _ X.stack _ _ ⟨Value.ref (hp.objs.size + 1) :: us, kw⟩ (Value.ref (hp.objs.size + 1) :: binds) _ _ (fun _ _ _ => False) (room.make C us kw) (I2.env0.make C us kw) (bind _ _ I2.kIn) rel2 want) ?_
  intro r s' got
  match r, got with
  | .error er, got => exact hx pins σ _ _ er s' I2 got
  | .ok (.ret u), got =>
    obtain ⟨v, H', I3, rv, ev, q3⟩ := I2.after got
    subst ev
    exact ⟨rv, ⟨V.ref (hp.objs.size + 1), H', I3, rfl, q3⟩⟩
end
end Wb

set_option Elab.async false
set_option linter.all false
set_option maxRecDepth 100000
set_option maxHeartbeats 4000000
/-! Wb4: the rules over them. -/
namespace Wb
open PySem PySem.Spec PyProof.Rows L2

theorem upd_mid {H : Hp} {a d : Addr} {o p q : HO} : upd (upd (upd H a o) d p) a q = upd (upd H d p) a q := by
  funext b
  unfold upd
  by_cases h : b = a
  · rw [if_pos h, if_pos h]
  · rw [if_neg h, if_neg h]
    by_cases h2 : b = d
    · rw [if_pos h2, if_neg h]
    · rw [if_neg h2, if_neg h]

/-- self.f = e of an exception's __init__ -/
def tIni (K : PySem.W.Frag) (f : Str) (to te : TE) : TS := fun D σ H => te σ H fun y H1 => to σ H1 fun x H2 =>
  ∃ a C : Addr, x = .ref a ∧ ErrC K C ∧ PySem.W.findIn K (.ref C) f = some none ∧ H2 a = some (exo a C none) ∧
    ∀ dx, H2 dx = none → dx ≠ a → D.nx σ (upd (upd H2 dx (exd dx [(f, y)])) a (exo a C (some dx)))
/-- err.f -/
def tEFld (K : PySem.W.Frag) (f : Str) (to : TE) : TE := fun σ H Q => to σ H fun x H1 =>
  ∃ (a C dx : Addr) (fs : List (Str × V)) (v : V), x = .ref a ∧ H1 a = some (exo a C (some dx)) ∧ H1 dx = some (exd dx fs) ∧ ErrC K C ∧ PySem.W.findIn K (.ref C) f = some none ∧ fs.lookup f = some v ∧ Q v H1
/-- isinstance(err, c) -/
def rIsErr (K : PySem.W.Frag) : List V → Hp → VK → Prop := fun xs H Q =>
  ∃ (a C : Addr) (od : Option Addr) (c : V) (cu : Value) (b : Bool), xs = [.ref a, c] ∧ H a = some (exo a C od) ∧ (∀ dx, od = some dx → ∃ fs, H dx = some (exd dx fs)) ∧ ErrC K C ∧ ClsV c cu ∧
    PySem.W.kitOne K (.ref C) cu = some b ∧ Q (.bl b) H
/-- C(v): an exception at a, its dict at dx -/
def tErr (C : Addr) (f : Str) (ta : TA) : TE := fun σ H Q => ta σ H fun vs H1 =>
  ∃ v, vs = [v] ∧ ∀ a dx, H1 a = none → H1 dx = none → dx ≠ a → Q (.ref a) (upd (upd H1 dx (exd dx [(f, v)])) a (exo a C (some dx)))
/-- the same, to be raised -/
def tErrX (C : Addr) (f : Str) (ta : TA) : L2.St → Hp → XK → Prop := fun σ H Q => ta σ H fun vs H1 =>
  ∃ v, vs = [v] ∧ ∀ dx, H1 dx = none → Q (.ref C) (some dx) (upd H1 dx (.xd [(f, v)]))
/-- __init__(self, f): self.f = f -/
def spIni (C : Addr) (f : Str) : Sp := fun vs H Q _ => ∃ (a : Addr) (v : V), vs = [.ref a, v] ∧ H a = some (exo a C none) ∧
  ∀ dx, H dx = none → dx ≠ a → Q .non (upd (upd H dx (exd dx [(f, v)])) a (exo a C (some dx)))
/-- __init__(self): pass -/
def spIni0 : Sp := fun vs H Q _ => ∃ a : Addr, vs = [.ref a] ∧ Q .non H

section
variable {X : Cx} {o e : Expr} {es : List Expr} {kws : List Keyword} {to te : TE} {ta : TA} {f x : Str} {p p' pos : Pos} {C fI : Addr} {fd : FuncData} {CX : CXT} {k : Nat}
theorem ps_ini (ho : PE X o to) (he : PE X e te) (hs : swapsWith e (some (.Attribute o f p')) pos.line X.env = pure false := by rfl) : PS X (.Assign [.Attribute o f p'] e pos) (tIni X.K f to te) := by
  constructor
  intro pins s σ H D I h
  refine plainObj_wpAny_Assign_Attribute (thn (he.run pins s σ H _ I h) ?_) hs
  rintro v s1 ⟨y, H1, I1, ry, q1⟩
  refine thn (ho.run pins s1 σ H1 _ I1 q1) ?_
  rintro u s2 ⟨x, H2, I2, rx, a, C, rfl, T, no, ea, q⟩
  obtain rfl : u = Value.ref a := rx
  exact setNew T I2 ea no ry fun dx s' n ne J => ⟨σ, _, J, q dx n ne⟩

theorem readErr {pins : List (Addr × Obj)} {σ : L2.St} {H : Hp} {s : Shared} {a dx : Addr} {fs : List (Str × V)} {v : V} {b : Bool} {A : Around} {Q : Value → Shared → Prop} {E : Value → Shared → Prop} (T : ErrC X.K C) (I : Inv X pins σ H s) (ea : H a = some (exo a C (some dx)))
    (ed : H dx = some (exd dx fs)) (no : PySem.W.findIn X.K (.ref C) f = some none) (l : fs.lookup f = some v) (h : ∀ u t', RelV v u → Q u { s with toks := t' }) : wpAny (model X.prog X.w) A (getAttr (.ref a) f b) Q E s := by
  obtain ⟨t1, ho⟩ := exo_at I.hok ea
  obtain ⟨mA, hns, rel⟩ := exd_at I.hok ed
  obtain ⟨od, hod, look⟩ := lookIn_ns hns
  obtain ⟨u, hu, ru⟩ := RelO.some_of (v := v) (o := mA f) (by rw [← l]; exact rel f)
  exact PySem.HandSPX.exc_get (od := some od) I.kIn ⟨ho, rfl, rfl, hod⟩ T.ga T.gg T.exc (PySem.W.findObj_own T.hd no rfl (by rw [look, hu])) (handed_of ru) (h u _ ru)

theorem pe_efld (ho : PE X o to) (hb : attributeBase o f X.env (eval o X.env) = eval o X.env := by rfl) : PE X (.Attribute o f pos) (tEFld X.K f to) := by
  constructor
  intro pins s σ H Q I h
  refine attr_of hb (thn (ho.run pins s σ H _ I h) ?_)
  rintro u s1 ⟨x, H1, I1, rx, a, C, dx, fs, v, rfl, ea, ed, T, no, l, q⟩
  obtain rfl : u = Value.ref a := rx
  exact readErr T I1 ea ed no l fun w t' rw' => ⟨v, H1, I1.tok t', rw', q⟩

theorem call_isErr : CallR X (.builtin "isinstance") (rIsErr X.K) := by
  intro pins s σ H xs us Q I r h
  obtain ⟨a, C, od, c, cu, b, rfl, ea, hod, T, kc, ek, q⟩ := h
  obtain ⟨u1, u2, rfl, r1, r2⟩ := vals2 r
  obtain rfl : u1 = Value.ref a := r1
  have e2 := kc.eq r2
  subst e2
  obtain ⟨t1, ho⟩ := exo_at I.hok ea
  have cls : (PySem.W.clsIn X.K C).isSome = true := by
    obtain ⟨cd, hcd, _⟩ := PySem.W.any_some T.hd
    rw [hcd]
    rfl
  have fin : ∀ tk, EP X pins σ Q (.bool b) { s with toks := tk } := fun tk => ⟨.bl b, H, I.tok tk, rfl, q⟩
  cases od with
  | none =>
    exact PySem.W.kia_one (PySem.W.kitx_exc (od := none) cls T.ga T.gg T.exc T.hc T.hn T.ht T.hm) I.kIn (⟨ho, rfl, rfl, trivial⟩ : PySem.W.InstAt s.heap a _ C none) ek (fun z => nomatch z) fin
  | some dx =>
    obtain ⟨fs, ed⟩ := hod dx rfl
    obtain ⟨mA, hns, _⟩ := exd_at I.hok ed
    obtain ⟨od, hod, _⟩ := lookIn_ns hns
    exact PySem.W.kia_one (PySem.W.kitx_exc (od := some od) cls T.ga T.gg T.exc T.hc T.hn T.ht T.hm) I.kIn (⟨ho, rfl, rfl, hod⟩ : PySem.W.InstAt s.heap a _ C (some od)) ek (fun z => nomatch z) fin

/-- C(e) -/
theorem pe_err (T : ErrC X.K C) (iC : PySem.W.findIn X.K (.ref C) "__init__" = some (some (.ref fI))) (tI : PySem.W.typeIn X.K (.ref fI) = some (.type "function")) {ps : List Str} (F1 : FnOk X.prog X.w X.K X.mg X.base CX k fI fd ps (spIni C f)) (room : Room (k + 1) X.A)
    (hb : Binds X.K fd ps []) (hx : Passes CX X (fun _ _ _ => False)) (hg : Gl X x) (hm : X.mg x = some (.ref C)) (ha : PA X (e :: es) ta) (hdb : (x == ("__debug__" : Str)) = false := by decide)
    (he : starEach (e :: es) X.env = (false, eval e X.env) :: starEach es X.env := by rfl) (hpl : (backTo pos (starEach es X.env)).any (·.1) = false := by rfl) : PE X (.Call (.Name x p) (e :: es) [] pos) (tErr C f ta) := by
  constructor
  intro pins s σ H Q I h
  apply wpAny_Call_Name_kw
  apply ld_glob I hg hm _ hdb
  refine PySem.W.callWith_K (h₀ := X.base) I.ok.mod.kin T.kp (thn (ha.run pos pins s σ H _ I h) ?_) he hpl
  rintro us s1 ⟨vs, H1, I1, r1, v, rfl, q⟩
  refine ⟨I1.kIn, ?_⟩
  show wpAny _ _ (call (.ref C) us) _ _ _
  have want : ∀ a : Addr, H1 a = none → spIni C f (.ref a :: [v]) (upd H1 a (exo a C none)) (fun v H2 => v = .non ∧ Q (.ref a) H2) (fun _ _ _ => False) := by
    intro a ha
    refine ⟨a, v, rfl, upd_same, fun dx hd ne => ⟨rfl, ?_⟩⟩
    rw [upd_mid]
    rw [upd_ne ne] at hd
    exact q a dx ha hd ne
  have many : ∀ a : Addr, (Value.ref a :: us).length = ps.length := by
    intro a
    obtain ⟨n0, hn0⟩ : ∃ n0, H1 n0 = none := ⟨s1.heap.objs.size, I1.hok.fresh (Nat.le_refl _)⟩
    have e1 := F1.len _ _ _ _ (want n0 hn0)
    have e2 := r1.length
    simp only [List.length_cons] at e1 e2 ⊢
    omega
  refine runErr T iC tI F1 room hx I1 (binds := us) (vs := [v]) ?_ ?_ r1 want
  · rw [← r1.length, sizeLine_eq]
    simp
  · intro s' a inK
    have q2 := hb s' (.ref a :: us) inK (by rw [List.append_nil]; exact many a)
    rw [List.append_nil] at q2
    exact q2

/-- C(f = e) -/
theorem pe_errK {g : Str} {kpos : Pos} (T : ErrC X.K C) (iC : PySem.W.findIn X.K (.ref C) "__init__" = some (some (.ref fI))) (tI : PySem.W.typeIn X.K (.ref fI) = some (.type "function")) {s0 : Str} (F1 : FnOk X.prog X.w X.K X.mg X.base CX k fI fd [s0, g] (spIni C f)) (room : Room (k + 1) X.A)
    (hb : ∀ (s' : Shared) (a v : Value), BindsTo s' fd ⟨[a], [(g, v)]⟩ [(s0, a), (g, v)]) (hx : Passes CX X (fun _ _ _ => False)) (hg : Gl X x) (hm : X.mg x = some (.ref C)) (he : PE X e te) (hdb : (x == ("__debug__" : Str)) = false := by decide) :
    PE X (.Call (.Name x p) [] [⟨some g, e, kpos⟩] pos) (tErr C f (tCons te tNil)) := by
  constructor
  intro pins s σ H Q I h
  apply wpAny_Call_Name_kw
  apply ld_glob I hg hm _ hdb
  have pk : PK X [⟨some g, e, kpos⟩] (tCons te tNil) := pk_cons he pk_nil
  refine PySem.W.callWith_KW0 (h₀ := X.base) I.ok.mod.kin T.kp (by rfl) (thn (pk.run pos pins s σ H _ I h) ?_)
  rintro us s1 ⟨vs, H1, I1, r1, v, rfl, q⟩
  refine ⟨I1.kIn, ?_⟩
  have want : ∀ a : Addr, H1 a = none → spIni C f (.ref a :: [v]) (upd H1 a (exo a C none)) (fun v H2 => v = .non ∧ Q (.ref a) H2) (fun _ _ _ => False) := by
    intro a ha
    refine ⟨a, v, rfl, upd_same, fun dx hd ne => ⟨rfl, ?_⟩⟩
    rw [upd_mid]
    rw [upd_ne ne] at hd
    exact q a dx ha hd ne
  cases r1 with
  | cons rv rn =>
  cases rn
  rename_i u
  refine runErr (us := []) (kw := [(g, u)]) T iC tI F1 room hx I1 (binds := [u]) (vs := [v]) (by rw [sizeLine_eq]; simp) ?_ (.cons rv .nil) want
  intro s' a inK
  exact hb s' _ _
end
end Wb

set_option Elab.async false
set_option linter.all false
set_option maxRecDepth 100000
set_option maxHeartbeats 4000000
/-! Wb5: own exceptions raised; those whose __init__ does nothing; those without one. -/
namespace Wb
open PySem PySem.Spec PyProof.Rows L2

section
variable {X : Cx} {e : Expr} {es : List Expr} {te : TE} {ta : TA} {f x : Str} {p p' pos : Pos} {C fI : Addr} {fd : FuncData} {CX : CXT} {k : Nat}
theorem untracked' {H : Hp} {a dx : Addr} {o o' u : HO} {z : HO} (ha : H a = none) (ne : dx ≠ a) : upd (del (upd (upd (upd H a o) dx u) a o') a) dx z = upd H dx z := by
  funext b
  unfold upd del
  by_cases h : b = dx
  · rw [if_pos h, if_pos h]
  · rw [if_neg h, if_neg h]
    by_cases h2 : b = a
    · rw [if_pos h2, h2, ha]
    · rw [if_neg h2]
      show (if b = a then some o' else if b = dx then some u else if b = a then some o else H b) = H b
      rw [if_neg h2, if_neg h, if_neg h2]

/-- C(e), to be raised -/
theorem pmk_err (T : ErrC X.K C) (iC : PySem.W.findIn X.K (.ref C) "__init__" = some (some (.ref fI))) (tI : PySem.W.typeIn X.K (.ref fI) = some (.type "function")) {ps : List Str} (F1 : FnOk X.prog X.w X.K X.mg X.base CX k fI fd ps (spIni C f)) (room : Room (k + 1) X.A)
    (hb : Binds X.K fd ps []) (hx : Passes CX X (fun _ _ _ => False)) (hg : Gl X x) (hm : X.mg x = some (.ref C)) (ha : PA X (e :: es) ta) (hdb : (x == ("__debug__" : Str)) = false := by decide)
    (he : starEach (e :: es) X.env = (false, eval e X.env) :: starEach es X.env := by rfl) (hpl : (backTo pos (starEach es X.env)).any (·.1) = false := by rfl) : PMk X (.Call (.Name x p) (e :: es) [] pos) (tErrX C f ta) := by
  intro pins s σ H Q I h
  obtain ⟨B, newId, initId, bmB, nm, q, N, bs, bm, sn, sub, ab, col, dd, k0, k1, k2, k3, k5, FB, ch, atC⟩ := T.new
  apply wpAny_Call_Name_kw
  apply ld_glob I hg hm _ hdb
  refine PySem.W.callWith_K (h₀ := X.base) I.ok.mod.kin T.kp (thn (ha.run pos pins s σ H _ I h) ?_) he hpl
  rintro us s1 ⟨vs, H1, I1, r1, v, rfl, q1⟩
  refine ⟨I1.kIn, ?_⟩
  show wpAny _ _ (call (.ref C) us) _ _ _
  obtain ⟨hp, g, dr, tk, os⟩ := s1
  have le1 : hp.objs.size ≤ hp.objs.size + 1 := Nat.le_succ _
  have free : H1 (hp.objs.size + 1) = none := I1.hok.fresh le1
  have want : spIni C f (.ref (hp.objs.size + 1) :: [v]) (upd H1 (hp.objs.size + 1) (exo (hp.objs.size + 1) C none))
      (fun r H2 => r = .non ∧ ∃ d : Addr, H2 (hp.objs.size + 1) = some (exo (hp.objs.size + 1) C (some d)) ∧ H2 d = some (exd d [(f, v)]) ∧ H1 d = none ∧ Q (.ref C) (some d) (upd (del H2 (hp.objs.size + 1)) d (.xd [(f, v)]))) (fun _ _ _ => False) := by
    refine ⟨_, v, rfl, upd_same, fun dx hd ne => ⟨rfl, dx, upd_same, ?_, ?_, ?_⟩⟩
    · rw [upd_ne ne, upd_same]
    · rw [upd_ne ne] at hd
      exact hd
    · rw [untracked' free ne]
      rw [upd_ne ne] at hd
      exact q1 dx hd
  have grown : ∀ b o, hp.get? b = some o → ((hp.push (PySem.W.kdv_tup us)).push (PySem.HandSPX.excO C hp.objs.size)).get? b = some o :=
    fun b o z => Heap.get?_push_of_some _ (Heap.get?_push_of_some _ z)
  have made : ((hp.push (PySem.W.kdv_tup us)).push (PySem.HandSPX.excO C hp.objs.size)).get? (hp.objs.size + 1) = some (PySem.HandSPX.excO C hp.objs.size) := by heap_get
  have I2 : Inv X pins σ (upd H1 (hp.objs.size + 1) (exo (hp.objs.size + 1) C none)) ⟨(hp.push (PySem.W.kdv_tup us)).push (PySem.HandSPX.excO C hp.objs.size), g, dr, tk, os⟩ :=
    I1.laid (t' := tk) (a := hp.objs.size + 1) (o := exo (hp.objs.size + 1) C none) (h' := (hp.push (PySem.W.kdv_tup us)).push (PySem.HandSPX.excO C hp.objs.size)) grown le1 (exo_ok made)
  have rel2 : Vals (V.ref (hp.objs.size + 1) :: [v]) (Value.ref (hp.objs.size + 1) :: us) := .cons rfl r1
  have many : (Value.ref (hp.objs.size + 1) :: us).length = ps.length := rel2.length.symm.trans (F1.len _ _ _ _ want)
  have short : us.length ≤ sizeLine := by
    rw [← r1.length, sizeLine_eq]
    simp
  have hb2 := hb ⟨(hp.push (PySem.W.kdv_tup us)).push (PySem.HandSPX.excO C hp.objs.size), g, dr, tk, os⟩ (Value.ref (hp.objs.size + 1) :: us) I2.kIn (by rw [List.append_nil]; exact many)
  rw [List.append_nil] at hb2
  apply wpAny_call
  refine PySem.WbE.callE (iv := .ref fI) FB ch (I1.kIn _ _ atC) (PySem.W.looks_findIn I1.kIn iC) (fun self => PySem.W.bind_fn I1.kIn self tI) short ?_
  refine codeAny_mono (F1.run _ X.stack _ _ ⟨Value.ref (hp.objs.size + 1) :: us, []⟩ (Value.ref (hp.objs.size + 1) :: us) _ _ (fun _ _ _ => False) (room.make C us []) (I2.env0.make C us []) hb2 rel2 want) ?_
  intro r s' got
  match r, got with
  | .error er, got => exact hx pins σ _ _ er s' I2 got
  | .ok (.ret u), got =>
    obtain ⟨r, H2, os2, bare2, un2, ok2, rv, ev, d, ea, ed, hd1, q2⟩ := got
    subst ev
    obtain ⟨h2, g2, d2, t2, os'⟩ := s'
    exact ⟨rv, mk_end (raises_own T.exc T.ty) I1 le1 grown un2 ok2 os2 bare2 ea ed hd1 q2⟩
end

/-! ### an __init__ that does nothing -/
section
variable {prog : Program} {w : World} {A : Around} {R : Result → Shared → Prop} {s : Shared} {K : PySem.W.Frag}
theorem idle {qual : Str} {st : Stmt} {fI : Addr} {fd : FuncData} {pp : Pos} {x : Value} (inK : K.In s.heap) (lim : s.heap.NoLimit) (F : Fun K "__init__" qual st fI fd) (body : defBody st = [.Pass pp])
    (S : FnScope ["self"] ["self"] (defScope st)) (loc : (defScope st).names.lookup ("self" : Str) = some NameKind.local) (bind : BindsTo s fd ⟨[x], []⟩ [("self", x)]) (room : A.depth < recursionLimit)
    (hq : ∀ h' tk, (∀ b o, s.heap.get? b = some o → h'.get? b = some o) → R (.ok (.ret .none)) { s with heap := h', toks := tk }) :
    codeAny (model prog w) A (.call (.ref fI) ⟨[x], []⟩) R s := by
  obtain ⟨a1, a2, a3, a4, a5, a6, cdv, a8, a9, rfl, found, coded⟩ := F.ex
  refine Att.call_fn inK lim found coded room bind ?_ ?_ S.co S.gen S.kind
  · simp [loc]
  · intro s1 ic
    obtain ⟨h1, tk1, rfl⟩ := ic.toInCall.same
    rw [body]
    refine wpAny_execs_cons (wpAny_Pass ?_)
    exact wpAny_execs_nil (hq h1 tk1 ic.toInCall.keep)
end
section
variable {X : Cx} {f x : Str} {p pos : Pos} {C fI : Addr} {fd : FuncData} {k : Nat}
/-- C(): an exception at a new address -/
def tErr0 (C : Addr) : TE := fun _ H Q => ∀ a, H a = none → Q (.ref a) (upd H a (exo a C none))
def tErrX0 (C : Addr) : L2.St → Hp → XK → Prop := fun _ H Q => Q (.ref C) none H

theorem run0 {pins : List (Addr × Obj)} {σ : L2.St} {H : Hp} {s : Shared} {qual : Str} {st : Stmt} {pp : Pos} {Q : Value → Shared → Prop} {E : Value → Shared → Prop} (T : ErrC X.K C) (iC : PySem.W.findIn X.K (.ref C) "__init__" = some (some (.ref fI))) (tI : PySem.W.typeIn X.K (.ref fI) = some (.type "function"))
    (F : Fun X.K "__init__" qual st fI fd) (body : defBody st = [.Pass pp]) (S : FnScope ["self"] ["self"] (defScope st)) (loc : (defScope st).names.lookup ("self" : Str) = some NameKind.local) (bind : ∀ (s : Shared) (v : Value), BindsTo s fd ⟨[v], []⟩ [("self", v)]) (room : Room 1 X.A) (I : Inv X pins σ H s)
    (hq : ∀ h' tk t0, (∀ b o, s.heap.get? b = some o → h'.get? b = some o) → h'.get? (s.heap.objs.size + 1) = some (PySem.HandSPX.excO C t0) → s.heap.get? t0 = none → h'.get? t0 = some (PySem.W.kdv_tup []) → Q (.ref (s.heap.objs.size + 1)) { s with heap := h', toks := tk }) :
    wpAny (model X.prog X.w) X.A (call (.ref C) []) Q E s := by
  obtain ⟨B, newId, initId, bmB, nm, q, N, bs, bm, sn, sub, ab, col, dd, k0, k1, k2, k3, k5, FB, ch, atC⟩ := T.new
  have lim := I.nolimit
  have inK := I.kIn
  obtain ⟨hp, g, dr, tk, os⟩ := s
  have grown : ∀ b o, hp.get? b = some o → ((hp.push (PySem.W.kdv_tup [])).push (PySem.HandSPX.excO C hp.objs.size)).get? b = some o :=
    fun b o z => Heap.get?_push_of_some _ (Heap.get?_push_of_some _ z)
  have made : ((hp.push (PySem.W.kdv_tup [])).push (PySem.HandSPX.excO C hp.objs.size)).get? (hp.objs.size + 1) = some (PySem.HandSPX.excO C hp.objs.size) := by heap_get
  have made2 : ((hp.push (PySem.W.kdv_tup [])).push (PySem.HandSPX.excO C hp.objs.size)).get? hp.objs.size = some (PySem.W.kdv_tup []) := by heap_get
  apply wpAny_call
  refine PySem.WbE.callE (iv := .ref fI) FB ch (inK _ _ atC) (PySem.W.looks_findIn inK iC) (fun self => PySem.W.bind_fn inK self tI) (by rw [sizeLine_eq]; simp) ?_
  refine idle (s := ⟨(hp.push (PySem.W.kdv_tup [])).push (PySem.HandSPX.excO C hp.objs.size), g, dr, tk, os⟩) (inK.keeps grown) (lim.keeps grown) F body S loc (bind _ _) ?_ ?_
  · have := (room.make C [] [] (k := 0)).depth
    exact this
  · intro h' tk' kept
    exact ⟨rfl, hq h' tk' hp.objs.size (fun b o z => kept b o (grown b o z)) (kept _ _ made) (Heap.get?_none_of_le (Nat.le_refl _)) (kept _ _ made2)⟩

theorem pe_err0 {qual : Str} {st : Stmt} {pp : Pos} (T : ErrC X.K C) (iC : PySem.W.findIn X.K (.ref C) "__init__" = some (some (.ref fI))) (tI : PySem.W.typeIn X.K (.ref fI) = some (.type "function"))
    (F : Fun X.K "__init__" qual st fI fd) (body : defBody st = [.Pass pp]) (S : FnScope ["self"] ["self"] (defScope st)) (loc : (defScope st).names.lookup ("self" : Str) = some NameKind.local) (bind : ∀ (s : Shared) (v : Value), BindsTo s fd ⟨[v], []⟩ [("self", v)]) (room : Room 1 X.A)
    (hg : Gl X x) (hm : X.mg x = some (.ref C)) (hdb : (x == ("__debug__" : Str)) = false := by decide) : PE X (.Call (.Name x p) [] [] pos) (tErr0 C) := by
  constructor
  intro pins s σ H Q I h
  apply wpAny_Call_Name_kw
  apply ld_glob I hg hm _ hdb
  refine PySem.W.callWith_K0 I.kIn T.kp ?_
  refine run0 T iC tI F body S loc bind room I ?_
  intro h' tk t0 kept made _ _
  exact ⟨.ref _, _, I.laid (t' := tk) kept (Nat.le_succ _) (exo_ok made), rfl, h _ (I.hok.fresh (Nat.le_succ _))⟩

theorem pmk_err0 {qual : Str} {st : Stmt} {pp : Pos} (T : ErrC X.K C) (iC : PySem.W.findIn X.K (.ref C) "__init__" = some (some (.ref fI))) (tI : PySem.W.typeIn X.K (.ref fI) = some (.type "function"))
    (F : Fun X.K "__init__" qual st fI fd) (body : defBody st = [.Pass pp]) (S : FnScope ["self"] ["self"] (defScope st)) (loc : (defScope st).names.lookup ("self" : Str) = some NameKind.local) (bind : ∀ (s : Shared) (v : Value), BindsTo s fd ⟨[v], []⟩ [("self", v)]) (room : Room 1 X.A)
    (hg : Gl X x) (hm : X.mg x = some (.ref C)) (hdb : (x == ("__debug__" : Str)) = false := by decide) : PMk X (.Call (.Name x p) [] [] pos) (tErrX0 C) := by
  intro pins s σ H Q I h
  apply wpAny_Call_Name_kw
  apply ld_glob I hg hm _ hdb
  refine PySem.W.callWith_K0 I.kIn T.kp ?_
  refine run0 T iC tI F body S loc bind room I ?_
  intro h' tk t0 kept made fr madeT
  have mexc : Heap.MadeExcOf s.heap h' (s.heap.objs.size + 1) (.ref C) [] := ⟨kept, Heap.get?_none_of_le (Nat.le_succ _), t0, made, fr, madeT⟩
  have J : Inv X pins σ H { s with toks := tk } := I.tok tk
  exact mk_of (s := { s with toks := tk }) J mexc (raises_own T.exc T.ty) h (I.hok.fresh (Nat.le_succ _))

/-- a class without own __init__: C() -/
theorem pe_errB {B newId initId : String} {bmB : List Value} (T : ErrC X.K C) (FB : PySem.ExcBaseFacts B newId initId bmB) (iC : PySem.W.findIn X.K (.ref C) "__init__" = some (some (.builtin initId)))
    (new : ∃ (nm q : Str) (N : Addr) (bs bm : List Value) (sn : List Str) (sub : List Value) (ab : Bool) (col : Option Bool) (dd : Option Addr) (k0 k1 k2 k3 k5 : Option Value),
      X.K.lookup C = some (excClassObj nm q C N bs bm true sn sub ab col dd k0 k1 k2 k3 k5 newId) ∧ PySem.WbE.Chain bm B ∧ ∀ X : String, bm.contains (.type X) = bmB.contains (.type X))
    (hg : Gl X x) (hm : X.mg x = some (.ref C)) (hdb : (x == ("__debug__" : Str)) = false := by decide) : PE X (.Call (.Name x p) [] [] pos) (tErr0 C) := by
  obtain ⟨nm, q, N, bs, bm, sn, sub, ab, col, dd, k0, k1, k2, k3, k5, atC, ch, hT⟩ := new
  constructor
  intro pins s σ H Q I h
  apply wpAny_Call_Name_kw
  apply ld_glob I hg hm _ hdb
  refine PySem.W.callWith_K0 I.kIn T.kp ?_
  show wpAny _ _ (call (.ref C) []) _ _ _
  have inK := I.kIn
  have fr := I.hok.fresh (a := s.heap.objs.size + 1) (Nat.le_succ _)
  obtain ⟨hp, g, dr, tk, os⟩ := s
  have grown : ∀ b o, hp.get? b = some o → ((hp.push (PySem.W.kdv_tup [])).push (PySem.HandSPX.excO C hp.objs.size)).get? b = some o :=
    fun b o z => Heap.get?_push_of_some _ (Heap.get?_push_of_some _ z)
  have made : ((hp.push (PySem.W.kdv_tup [])).push (PySem.HandSPX.excO C hp.objs.size)).get? (hp.objs.size + 1) = some (PySem.HandSPX.excO C hp.objs.size) := by heap_get
  apply wpAny_call
  refine PySem.WbE.callE (iv := .builtin initId) FB ch (inK _ _ atC) (PySem.W.looks_findIn inK iC) (fun self => ?_) (by rw [sizeLine_eq]; simp) ?_
  · rw [FB.init.bind self]
    exact .now
  · refine PySem.HandSPX.init_base FB hT (grown _ _ (inK _ _ atC)) made (by rw [sizeLine_eq]; simp) ?_
    intro h' t1 kept now
    have old : ∀ b o, hp.get? b = some o → h'.get? b = some o := fun b o z => kept b o (Nat.ne_of_lt (Nat.lt_succ_of_lt (Heap.lt_size z))) (grown b o z)
    exact ⟨rfl, .ref _, _, I.laid (t' := tk) old (Nat.le_succ _) (exo_ok now), rfl, h _ fr⟩
end
end Wb

set_option Elab.async false
set_option linter.all false
set_option maxRecDepth 100000
set_option maxHeartbeats 4000000
/-! Wb6: the deal that a law draws from: what is known of it, and what is kept beside it. -/
namespace Wb
open PySem PySem.Spec PyProof.Rows L2

/-- the heap without the deal's two lists -/
def off (H : Hp) (d c : Addr) : Hp := fun b => if b = d ∨ b = c then none else H b
theorem off_at {H : Hp} {d c b : Addr} (h1 : b ≠ d) (h2 : b ≠ c) : off H d c b = H b := if_neg (fun z => z.elim h1 h2)
theorem off_some {H : Hp} {d c b : Addr} {o : HO} (h : off H d c b = some o) : H b = some o ∧ b ≠ d ∧ b ≠ c := by
  unfold off at h
  by_cases e : b = d ∨ b = c
  · rw [if_pos e] at h
    cases h
  · rw [if_neg e] at h
    exact ⟨h, fun z => e (.inl z), fun z => e (.inr z)⟩
theorem off_le (H : Hp) (d c : Addr) : Same (off H d c) H := fun b o h => (off_some h).1
theorem off_mono {H H' : Hp} {d c : Addr} (h : Same H H') : Same (off H d c) (off H' d c) := by
  intro b o z
  obtain ⟨z1, z2, z3⟩ := off_some z
  rw [off_at z2 z3]
  exact h b o z1
theorem off_none {H : Hp} {d c b : Addr} (h : H b = none) : off H d c b = none := by
  unfold off
  split
  · rfl
  · exact h
/-- a new object is kept -/
theorem new_same {H : Hp} {p : Addr} {o : HO} (h : H p = none) : Same H (upd H p o) := fun b u z => by
  rw [upd_ne (ne_of_none z h)]
  exact z
theorem off_new {H : Hp} {d c p : Addr} {o : HO} (h1 : p ≠ d) (h2 : p ≠ c) : off (upd H p o) d c p = some o := by
  rw [off_at h1 h2]
  exact upd_same

/-- the deal: a list at d of the cells' list at c, and a number -/
structure Deal (H : Hp) (d c : Addr) : Prop where
  ex : ∃ (cs : List Int) (mix : Int), H d = some (.lst [.ref c, .int mix]) ∧ H c = some (.lst (cs.map V.int)) ∧ cs.length ≤ 63 ∧ (∀ z ∈ cs, 0 ≤ z) ∧ 0 ≤ mix ∧ mix < 2147483647
theorem Deal.ne {H : Hp} {d c : Addr} (D : Deal H d c) : d ≠ c := by
  obtain ⟨cs, mix, h1, h2, _⟩ := D.ex
  refine ne_of h1 h2 fun z => ?_
  have z2 : [V.ref c, V.int mix] = cs.map V.int := HO.lst.inj z
  cases cs with
  | nil => cases z2
  | cons a r => cases z2
theorem Deal.same {H H' : Hp} {d c : Addr} (D : Deal H d c) (s : Same H H') : Deal H' d c := by
  obtain ⟨cs, mix, h1, h2, h3⟩ := D.ex
  exact ⟨cs, mix, s _ _ h1, s _ _ h2, h3⟩
/-- a free address is none of the deal's -/
theorem Deal.free {H : Hp} {d c p : Addr} (D : Deal H d c) (h : H p = none) : p ≠ d ∧ p ≠ c := by
  obtain ⟨cs, mix, h1, h2, h3⟩ := D.ex
  exact ⟨(ne_of_none h1 h).symm, (ne_of_none h2 h).symm⟩
/-- the deal's own lists changed: all else is kept -/
theorem off_dc {H : Hp} {d c : Addr} {o u : HO} : off (upd (upd H c o) d u) d c = off H d c := by
  funext b
  unfold off
  by_cases e : b = d ∨ b = c
  · rw [if_pos e, if_pos e]
  · rw [if_neg e, if_neg e, upd_ne (fun z => e (.inl z)), upd_ne (fun z => e (.inr z))]
theorem off_c {H : Hp} {d c : Addr} {o : HO} : off (upd H c o) d c = off H d c := by
  funext b
  unfold off
  by_cases e : b = d ∨ b = c
  · rw [if_pos e, if_pos e]
  · rw [if_neg e, if_neg e, upd_ne (fun z => e (.inr z))]
theorem off_d {H : Hp} {d c : Addr} {o : HO} : off (upd H d o) d c = off H d c := by
  funext b
  unfold off
  by_cases e : b = d ∨ b = c
  · rw [if_pos e, if_pos e]
  · rw [if_neg e, if_neg e, upd_ne (fun z => e (.inl z))]

theorem seqT {K : PySem.W.Frag} {H H' : Hp} {a : Addr} {xs : List V} (e : Same H H') (h : SqT K H a xs) : SqT K H' a xs := by
  rcases h with (h | ⟨o, h⟩) | h
  · exact Or.inl (Or.inl (e _ _ h))
  · exact Or.inl (Or.inr ⟨o, e _ _ h⟩)
  · exact Or.inr h
/-- an item at a place drawn -/
theorem item_at {xs : List V} {r : Int} (h0 : 0 ≤ r) (h1 : r < (xs.length : Int)) : ∃ v, v ∈ xs ∧ atI xs r = some v := by
  obtain ⟨j, rfl⟩ := Int.eq_ofNat_of_zero_le h0
  have hj : j < xs.length := by omega
  exact ⟨xs[j], List.getElem_mem hj, atI_nat (List.getElem?_eq_getElem hj)⟩
theorem nil_or_last {α : Type} (l : List α) : l = [] ∨ ∃ ini z, l = ini ++ [z] := by
  cases l with
  | nil => exact .inl rfl
  | cons a r => exact .inr ⟨(a :: r).dropLast, (a :: r).getLast (by simp), (List.dropLast_concat_getLast (by simp)).symm⟩
/-- one statement and the rest, what is known between them said apart -/
theorem seqI {t1 t2 : TS} {D : Ends} {σ : L2.St} {H : Hp} (Ex : L2.St → Hp → Prop) (rest : ∀ σ' H', Ex σ' H' → t2 D σ' H')
    (first : ∀ Z : L2.St → Hp → Prop, (∀ σ' H', Ex σ' H' → Z σ' H') → t1 { D with nx := Z } σ H) : tSeq t1 t2 D σ H :=
  first _ rest
/-- a while by an invariant, a measure, and what is known at its end; what follows is asked apart -/
theorem whileI {c : TT} {tb : TS} {D : Ends} {σ : L2.St} {H : Hp} (I Ex : L2.St → Hp → Prop) (m : L2.St → Hp → Nat) (h0 : I σ H) (rest : ∀ σ H, Ex σ H → D.nx σ H)
    (step : ∀ σ H, I σ H → ∀ Y Z : Hp → Prop,
      (∀ H1, tb { D with nx := fun σ' H' => I σ' H' ∧ m σ' H' < m σ H, ct := fun σ' H' => I σ' H' ∧ m σ' H' < m σ H, bk := D.nx } σ H1 → Y H1) → (∀ H1, Ex σ H1 → Z H1) →
      c σ H fun b H1 => if b = true then Y H1 else Z H1) : tWhile c tb D σ H := by
  refine ⟨fun k σ H => k = m σ H ∧ I σ H, ⟨_, rfl, h0⟩, ?_⟩
  rintro k σ H ⟨rfl, hI⟩
  refine step σ H hI _ _ (fun H1 q => ?_) (fun H1 e => rest σ H1 e)
  exact ⟨_, fun σ' H' ⟨p', l⟩ => ⟨_, l, rfl, p'⟩, q⟩

/-- _law_any(deal, bound): some number below the bound; the deal is one again, all else is kept -/
def spAny : Sp := fun vs H Q _ => ∃ (d c : Addr) (bound : Int), vs = [.ref d, .int bound] ∧ Deal H d c ∧ 0 < bound ∧ bound < 2 ^ 300 ∧
  ∀ (r : Int) (H' : Hp), 0 ≤ r → r < bound → Deal H' d c → Same (off H d c) (off H' d c) → Q (.int r) H'
/-- _law_of(deal, some): some item of a list, of a tuple, or a sign of a text -/
def spOf (K : PySem.W.Frag) : Sp := fun vs H Q _ => ∃ (d c : Addr) (x : V), vs = [.ref d, x] ∧ Deal H d c ∧
  ((∃ (p : Addr) (xs : List V), x = .ref p ∧ SqL K (off H d c) p xs ∧ xs ≠ [] ∧ xs.length ≤ 1000 ∧ ∀ (v : V) (H' : Hp), v ∈ xs → Deal H' d c → Same (off H d c) (off H' d c) → Q v H') ∨
   (∃ (p : Addr) (xs : List V), x = .ref p ∧ SqT K (off H d c) p xs ∧ xs ≠ [] ∧ xs.length ≤ 1000 ∧ ∀ (v : V) (H' : Hp), v ∈ xs → Deal H' d c → Same (off H d c) (off H' d c) → Q v H') ∨
   (∃ z : Str, x = .str z ∧ 0 < z.length ∧ z.length ≤ 1000 ∧ ∀ (a : Nat) (H' : Hp), a ∈ z.cps.toList → Deal H' d c → Same (off H d c) (off H' d c) → Q (.str ⟨#[a]⟩) H'))
/-- _law_deal(script, base): a new deal -/
def spDeal (K : PySem.W.Frag) : Sp := fun vs H Q _ => ∃ (a : Addr) (ns : List Int) (b : Int), vs = [.ref a, .int b] ∧ SqL K H a (ns.map V.int) ∧ ns.length ≤ 63 ∧ 0 ≤ b ∧ b ≤ 1000 ∧
  ∀ (d c : Addr) (H' : Hp), H d = none → H c = none → Deal H' d c → Same H H' → Q (.ref d) H'
end Wb

set_option Elab.async false
set_option linter.all false
set_option maxRecDepth 100000
set_option maxHeartbeats 4000000
/-! Wb7: data that is all new; how large it is shown. -/
namespace Wb
open PySem PySem.Spec PyProof.Rows L2

/-- what stands in H' and was free in H -/
def nw (H H' : Hp) : Hp := fun b => if H b = none then H' b else none
theorem nw_at {H H' : Hp} {b : Addr} (h : H b = none) : nw H H' b = H' b := if_pos h
theorem nw_some {H H' : Hp} {b : Addr} {o : HO} (h : nw H H' b = some o) : H b = none ∧ H' b = some o := by
  unfold nw at h
  by_cases e : H b = none
  · rw [if_pos e] at h
    exact ⟨e, h⟩
  · rw [if_neg e] at h
    cases h
theorem nw_le (H H' : Hp) : Same (nw H H') H' := fun b o h => (nw_some h).2
/-- every address that is taken stays taken -/
def Dom (H H' : Hp) : Prop := ∀ b, H' b = none → H b = none
theorem Dom.refl (H : Hp) : Dom H H := fun _ h => h
theorem Dom.trans {H G J : Hp} (a : Dom H G) (b : Dom G J) : Dom H J := fun x h => a x (b x h)
theorem Dom.of {H H' : Hp} (s : Same H H') : Dom H H' := fun b h => s.free h
theorem Dom.deal {H H' : Hp} {d c : Addr} (s : Same (off H d c) (off H' d c)) (D : Deal H' d c) : Dom H H' := by
  intro b h
  obtain ⟨n1, n2⟩ := D.free h
  have q : off H' d c b = none := (off_at n1 n2).trans h
  have z := s.free q
  rwa [off_at n1 n2] at z
/-- new since later is new since earlier; and it is kept where all but the deal is -/
theorem nw_mono {H0 H G G' : Hp} {d c : Addr} (a : Dom H0 H) (D : Deal H d c) (s : Same (off G d c) (off G' d c)) : Same (nw H G) (nw H0 G') := by
  intro b o h
  obtain ⟨h1, h2⟩ := nw_some h
  obtain ⟨n1, n2⟩ := D.free h1
  rw [nw_at (a b h1)]
  have q := s b o (by rw [off_at n1 n2]; exact h2)
  exact (off_some q).1
theorem nw_off {H G : Hp} {d c : Addr} (D : Deal H d c) : Same (nw H G) (off G d c) := by
  intro b o h
  obtain ⟨h1, h2⟩ := nw_some h
  obtain ⟨n1, n2⟩ := D.free h1
  rw [off_at n1 n2]
  exact h2
theorem nw_upd {H G : Hp} {p : Addr} {o : HO} (h : H p ≠ none) : nw H (upd G p o) = nw H G := by
  funext b
  unfold nw
  by_cases e : H b = none
  · rw [if_pos e, if_pos e, upd_ne (fun z => h (by rw [← z]; exact e))]
  · rw [if_neg e, if_neg e]

mutual
theorem dpMono {K : PySem.W.Frag} {H H' : Hp} (s : Same H H') : ∀ (d : PyData) (v : V), Dp K H v d → Dp K H' v d
  | .none, _, h => by
    cases h
    exact .non
  | .bool b, _, h => by
    cases h
    exact .bl b
  | .int i, _, h => by
    cases h
    exact .int i
  | .str x, _, h => by
    cases h
    exact .str x
  | .list ds, _, h => by
    cases h with
    | lst h1 h2 => exact .lst (s.seq h1) (dpMonoAll s ds _ h2)
  | .tuple ds, _, h => by
    cases h with
    | tup h1 h2 => exact .tup (seqT s h1) (dpMonoAll s ds _ h2)
  | .dict _, _, h => by cases h
theorem dpMonoAll {K : PySem.W.Frag} {H H' : Hp} (s : Same H H') : ∀ (ds : List PyData) (vs : List V), DpAll K H vs ds → DpAll K H' vs ds
  | [], _, h => by
    cases h
    exact .nil
  | d :: ds, _, h => by
    cases h with
    | cons h1 h2 => exact .cons (dpMono s d _ h1) (dpMonoAll s ds _ h2)
end
theorem dpAll_snoc {K : PySem.W.Frag} {H : Hp} {v : V} {e : PyData} (h : Dp K H v e) : ∀ {vs : List V} {es : List PyData}, DpAll K H vs es → DpAll K H (vs ++ [v]) (es ++ [e])
  | _, _, .nil => .cons h .nil
  | _, _, .cons h1 h2 => .cons h1 (dpAll_snoc h h2)
theorem dpAll_len {K : PySem.W.Frag} {H : Hp} : ∀ {vs : List V} {es : List PyData}, DpAll K H vs es → vs.length = es.length
  | _, _, .nil => rfl
  | _, _, .cons _ h2 => by simp [dpAll_len h2]
theorem dpAll_mem {K : PySem.W.Frag} {H : Hp} : ∀ {vs : List V} {es : List PyData} {v : V}, DpAll K H vs es → v ∈ vs → ∃ e, e ∈ es ∧ Dp K H v e
  | _, _, _, .nil, h => nomatch h
  | _, _, v, .cons h1 h2, h => by
    rcases List.mem_cons.mp h with rfl | h
    · exact ⟨_, List.mem_cons_self, h1⟩
    · obtain ⟨e, q1, q2⟩ := dpAll_mem h2 h
      exact ⟨e, List.mem_cons_of_mem _ q1, q2⟩

/-- what may be shown: n deep, of a weight W -/
structure Tame (n W : Nat) (e : PyData) : Prop where
  shows : e.showable = true
  noDict : e.hasDict = false
  deep : e.depth ≤ n
  short : e.leavesShort 13 = true
  light : e.weight ≤ W
theorem Tame.fits {n W : Nat} {e : PyData} (t : Tame n W e) (h : W ≤ 1000000) : e.shown.length ≤ sizeLine := by
  have q := PyData.shown_le 13 (by decide) e t.short
  have l := t.light
  rw [sizeLine_eq]
  omega
theorem Tame.more {n m W Z : Nat} {e : PyData} (t : Tame n W e) (h1 : n ≤ m) (h2 : W ≤ Z) : Tame m Z e :=
  ⟨t.shows, t.noDict, Nat.le_trans t.deep h1, t.short, Nat.le_trans t.light h2⟩
structure TameAll (n W : Nat) (es : List PyData) : Prop where
  shows : PyData.showableAll es = true
  noDict : PyData.hasDictAll es = false
  deep : PyData.depthAll es ≤ n
  short : PyData.leavesShortAll 13 es = true
  light : PyData.weightAll es ≤ es.length * (W + 1)
theorem TameAll.nil {n W : Nat} : TameAll n W [] := ⟨by simp [PyData.showableAll], by simp [PyData.hasDictAll], by simp [PyData.depthAll], by simp [PyData.leavesShortAll], by simp [PyData.weightAll]⟩
theorem TameAll.cons {n W : Nat} {e : PyData} {es : List PyData} (t : Tame n W e) (h : TameAll n W es) : TameAll n W (e :: es) := by
  obtain ⟨a1, a2, a3, a4, a5⟩ := t
  obtain ⟨b1, b2, b3, b4, b5⟩ := h
  refine ⟨by simp [PyData.showableAll, a1, b1], by simp [PyData.hasDictAll, a2, b2], ?_, by simp [PyData.leavesShortAll, a4, b4], ?_⟩
  · simp only [PyData.depthAll]
    exact Nat.max_le.mpr ⟨a3, b3⟩
  · simp only [PyData.weightAll, List.length_cons, Nat.succ_mul]
    omega
theorem TameAll.of {n W : Nat} : ∀ {es : List PyData}, (∀ e ∈ es, Tame n W e) → TameAll n W es
  | [], _ => .nil
  | e :: es, h => .cons (h e List.mem_cons_self) (TameAll.of fun x hx => h x (List.mem_cons_of_mem _ hx))
theorem TameAll.list {n W k : Nat} {es : List PyData} (h : TameAll n W es) (few : es.length ≤ k) : Tame (n + 1) (k * (W + 1)) (.list es) := by
  obtain ⟨b1, b2, b3, b4, b5⟩ := h
  refine ⟨by simpa [PyData.showable] using b1, by simpa [PyData.hasDict] using b2, ?_, by simpa [PyData.leavesShort] using b4, ?_⟩
  · simp only [PyData.depth]
    omega
  · simp only [PyData.weight]
    exact Nat.le_trans b5 (Nat.mul_le_mul_right _ few)
theorem TameAll.tuple {n W k : Nat} {es : List PyData} (h : TameAll n W es) (few : es.length ≤ k) : Tame (n + 1) (k * (W + 1)) (.tuple es) := by
  obtain ⟨b1, b2, b3, b4, b5⟩ := h
  refine ⟨by simpa [PyData.showable] using b1, by simpa [PyData.hasDict] using b2, ?_, by simpa [PyData.leavesShort] using b4, ?_⟩
  · simp only [PyData.depth]
    omega
  · simp only [PyData.weight]
    exact Nat.le_trans b5 (Nat.mul_le_mul_right _ few)
theorem tame_none : Tame 0 40 .none := ⟨by decide +kernel, by decide +kernel, by decide +kernel, by decide +kernel, by decide +kernel⟩
theorem tame_bool (b : Bool) : Tame 0 40 (.bool b) := by cases b <;> exact ⟨by decide +kernel, by decide +kernel, by decide +kernel, by decide +kernel, by decide +kernel⟩
theorem log2_small {i : Int} (h : i.natAbs < 10 ^ 12) : i.natAbs.log2 ≤ 39 := by
  by_cases z : i.natAbs = 0
  · rw [z]
    decide
  · have := (Nat.log2_lt z (k := 40)).mpr (Nat.lt_trans h (by decide))
    omega
theorem tame_int {i : Int} (h : i.natAbs < 10 ^ 12) : Tame 0 40 (.int i) := by
  have l := log2_small h
  refine ⟨?_, by simp [PyData.hasDict], by simp [PyData.depth], ?_, ?_⟩
  · simp only [PyData.showable, decide_eq_true_eq]
    omega
  · simp only [PyData.leavesShort, decide_eq_true_eq]
    exact PyData.shown_int_le h
  · simp only [PyData.weight]
    split <;> omega
theorem tame_str {x : Str} (h : ∀ a ∈ x.cps.toList, a < 16 ^ 8) (few : x.length ≤ 40) : Tame 0 40 (.str x) := by
  refine ⟨by simp [PyData.showable], by simp [PyData.hasDict], by simp [PyData.depth], ?_, ?_⟩
  · simp only [PyData.leavesShort, List.all_eq_true, decide_eq_true_eq]
    exact h
  · simp only [PyData.weight]
    exact few

/-- signs glued -/
theorem glued (L : List Nat) : ∀ ys : List Str, (∀ y ∈ ys, ∃ a ∈ L, y = ⟨#[a]⟩) → (Str.join (Str.ofString "") ys).length = ys.length ∧ ∀ a ∈ (Str.join (Str.ofString "") ys).cps.toList, a ∈ L
  | [], _ => ⟨by decide, fun a ha => by
    have e : (Str.join (Str.ofString "") []).cps.toList = [] := by decide
    rw [e] at ha
    cases ha⟩
  | [y], h => by
    obtain ⟨a, ha, rfl⟩ := h y List.mem_cons_self
    refine ⟨rfl, fun b hb => ?_⟩
    have hb' : b ∈ [a] := hb
    rw [List.mem_singleton.mp hb']
    exact ha
  | y :: z :: r, h => by
    obtain ⟨a, ha, rfl⟩ := h y List.mem_cons_self
    obtain ⟨i1, i2⟩ := glued L (z :: r) fun x hx => h x (List.mem_cons_of_mem _ hx)
    have e : Str.join (Str.ofString "") (⟨#[a]⟩ :: z :: r) = (⟨#[a]⟩ ++ Str.ofString "") ++ Str.join (Str.ofString "") (z :: r) := rfl
    rw [e]
    refine ⟨?_, fun b hb => ?_⟩
    · rw [strLen_append, strLen_append, i1]
      have e1 : (Str.ofString "").length = 0 := by decide
      have e2 : (⟨#[a]⟩ : Str).length = 1 := rfl
      rw [e1, e2]
      simp
      omega
    · rw [cps_toList_append, cps_toList_append] at hb
      have e1 : (Str.ofString "").cps.toList = [] := by decide
      rw [e1, List.append_nil] at hb
      rcases List.mem_append.mp hb with q | q
      · have q' : b ∈ [a] := q
        rw [List.mem_singleton.mp q']
        exact ha
      · exact i2 b q
end Wb

set_option Elab.async false
set_option linter.all false
set_option maxRecDepth 100000
set_option maxHeartbeats 4000000
/-! Wf1: what fractions take of the language: // below 0, lcm, calls by names alone, a caught error looked at. -/
namespace Wb
open PySem PySem.Spec PyProof.Rows L2
section
variable {X : Cx}
/-- // by a divisor of either sign -/
def CDivS (_ j : Int) : Prop := j ≠ 0 ∧ j.natAbs.log2 < 9000
theorem op_fdivS : OpR X (binaryOp .FloorDiv) (rI CDivS fun i j => .int (i.fdiv j)) := opI fun i j _ _ _ _ _ hc q => floordiv_int hc.1 q (.inl (PyProof.noPylong_of_log2 hc.2))
def rLcm : List V → Hp → VK → Prop := fun vs H Q => ∃ a b : Int, vs = [.int a, .int b] ∧ a.natAbs < 2 ^ 9000 ∧ b.natAbs < 2 ^ 9000 ∧ Q (.int ((Nat.lcm a.natAbs b.natAbs : Nat) : Int)) H
theorem log_le {n k : Nat} (h : n < 2 ^ k) (h0 : 0 < k) : n.log2 < k := by
  by_cases z : n = 0
  · subst z
    rw [Nat.log2_zero]
    exact h0
  · exact (Nat.log2_lt z).mpr h
theorem cr_lcm : CallR X (.builtin "math.lcm") rLcm := by
  intro pins s σ H vs us Q I r h
  obtain ⟨a, b, rfl, ha, hb, q⟩ := h
  obtain ⟨t, u, rfl⟩ := Vals.int2 r
  have one9 : (1 : Nat) < 2 ^ 9000 := Nat.one_lt_two_pow (by decide)
  have h1 : (max 1 a.natAbs).log2 < 9000 := log_le (Nat.max_lt.mpr ⟨one9, ha⟩) (by decide)
  have h2 : (max a.natAbs b.natAbs).log2 < 9000 := log_le (Nat.max_lt.mpr ⟨ha, hb⟩) (by decide)
  have h3 : (Nat.lcm 1 a.natAbs).lcm b.natAbs = Nat.lcm a.natAbs b.natAbs := by rw [PySem.W.mc_lcm_one]
  have h4 : (Nat.lcm a.natAbs b.natAbs).log2 < 18000 := by
    refine log_le (Nat.lt_of_le_of_lt (PySem.W.mc_lcm_le _ _) ?_) (by decide)
    have e : (18000 : Nat) = 9000 + 9000 := rfl
    rw [e, Nat.pow_add]
    exact Nat.mul_lt_mul'' ha hb
  have h5 : ((((Nat.lcm 1 a.natAbs).lcm b.natAbs : Nat) : Int)).natAbs.log2 < bitsLine := by
    rw [h3, Int.natAbs_natCast]
    exact Nat.lt_trans h4 (by decide)
  refine call_function_meets PySem.W.MGF.kind_lcm PySem.W.MGF.plain_lcm PySem.W.MGF.entry_lcm (PySem.W.MGF.args_lcm _ _) (PySem.W.mg_run_lcm a t b u (by omega) (by omega) h5).meets ?_
  rw [h3]
  exact ⟨.int _, H, I.tok _, ⟨_, rfl⟩, q⟩
end
section
variable {X : Cx} {CX : CXT} {k : Nat} {f C : Addr} {fd : FuncData} {ps ks : List Str} {sp : Sp} {E : XK} {x m : Str} {p pos apos kpos : Pos} {e o : Expr} {es : List Expr} {kws : List Keyword} {te ta : TE} {t tk : TA} {nm : Option Str}
variable {g : List Value → List Value → List Value} {gV : List V → List V → List V}
def tCallK0 (sp : Sp) (gV : List V → List V → List V) (E : XK) (tk : TA) : TE := fun σ H Q => tk σ H fun zs H2 => sp (gV [] zs) H2 Q E
/-- f(k = v, ..), nothing by position -/
theorem pe_callK0 (F : FnOk X.prog X.w X.K X.mg X.base CX k f fd ps sp) (hr : Room k X.A) (hg : Gl X x) (hm : X.mg x = some (.ref f)) (hk : PySem.W.keepIn X.K (.ref f) = true) (hb : KBinds X.K fd ps ks g gV) (hx : Passes CX X E)
    (hkw : PK X kws tk) (hall : (backToKw pos (keywordEach kws X.env)).all (·.1.isSome) = true := by rfl) (hks : (backToKw pos (keywordEach kws X.env)).filterMap (·.1) = ks := by rfl)
    (hdb : (x == ("__debug__" : Str)) = false := by decide) (hpl : ((backTo pos (starEach [] X.env)).any (·.1) || (backToKw pos (keywordEach kws X.env)).any (·.1.isNone)) = false := by rfl) :
    PE X (.Call (.Name x p) [] kws pos) (tCallK0 sp gV E tk) := by
  refine ⟨fun pins s σ H Q I h => ?_⟩
  refine wpAny_Call_Name_kw (ld_glob I hg hm ?_ hdb)
  refine PySem.W.callWith_KW0 (h₀ := X.base) I.ok.mod.kin hk hall (thn (hkw.run pos pins s σ H _ I h) fun ws s2 ⟨zs, H2, I2, rz, q2⟩ => ⟨I2.kIn, ?_⟩) hpl
  rw [hks]
  exact run_fnk (us := []) (vs := []) F hr hb hx I2 .nil rz q2
end
/-- a def that may raise, where it doesn't -/
theorem quiet {P : Program} {w : World} {K : PySem.W.Frag} {mg : Str → Option Value} {base : Heap} {k : Nat} {f : Addr} {fd : FuncData} {ps : List Str} {sp : Sp} (F : FnOk P w K mg base (L2.CX P w) k f fd ps sp) :
    FnOk P w K mg base CX0 k f fd ps (fun vs H Q _ => sp vs H Q (fun _ _ _ => False)) :=
  ⟨fun vs H Q E h => F.len vs H Q _ h, fun A outer s H args us vs Q E hr he hb hv hs => by
    refine codeAny_mono (F.run A outer s H args us vs Q (fun _ _ _ => False) hr he hb hv hs) ?_
    intro r s' h
    match r, h with
    | .ok (.ret u), h => exact h
    | .error er, h =>
      obtain ⟨a, B, H', cls, d, _, _, _, _, _, _, _, z⟩ := h
      exact z.elim⟩
section
variable {X : Cx} {e : Expr} {te : TE} {pos : Pos} {a : Addr} {oe : Obj} {cls : Value} {d : Option Addr} {pn : List (Addr × Obj)} {f : Str}
theorem xd_at {P : Program} {w : World} {H : Hp} {h : Heap} {dd : Addr} {fs : List (Str × V)} (hok : HOk P w H h) (ea : H dd = some (.xd fs)) : ∃ mA, h.Ns1 dd mA ∧ ∀ g, RelO (fs.lookup g) (mA g) := by
  have hx : ObjOk P w H h dd (.xd fs) := hok dd _ ea
  obtain ⟨mA, hns, hr⟩ := hx
  exact ⟨mA, hns, hr⟩
/-- e.f, e the error that the suite holds -/
def tErrF (K : PySem.W.Frag) (a : Addr) (cls : Value) (d : Option Addr) (f : Str) (te : TE) : TE := fun σ H Q => te σ H fun x H1 => x = .ref a ∧ ∃ (C dd : Addr) (v : V), cls = .ref C ∧ d = some dd ∧ ErrC K C ∧ PySem.W.findIn K (.ref C) f = some none ∧ H1 dd = some (.xd [(f, v)]) ∧ Q v H1
theorem pe_errF (hz : Zc cls d oe) (hf : ∃ vs, oe.data = .fields vs) (he : PE (X.suite a ((a, oe) :: pn)) e te) (hb : attributeBase e f X.env (eval e X.env) = eval e X.env := by rfl) :
    PE (X.suite a ((a, oe) :: pn)) (.Attribute e f pos) (tErrF X.K a cls d f te) := by
  refine ⟨fun pins s σ H Q I h => ?_⟩
  refine attr_of hb (thn (he.run pins s σ H _ I h) fun u s1 hh => ?_)
  obtain ⟨x, H1, I1, rx, ex, C, dd, v, ec, ed, T, no, ea, q⟩ := hh
  subst ex
  obtain rfl : u = Value.ref a := rx
  subst ec
  subst ed
  obtain ⟨ha, _⟩ := I1.pin (a, oe) (List.mem_append_left _ List.mem_cons_self)
  obtain ⟨vs, hd⟩ := hf
  obtain ⟨mA, hns, hr⟩ := xd_at I1.hok ea
  obtain ⟨od, ho, hl⟩ := lookIn_ns hns
  have l : List.lookup f [(f, v)] = some v := by simp [List.lookup]
  obtain ⟨u, hu, ru⟩ := RelO.some_of (v := v) (o := mA f) (by rw [← l]; exact hr f)
  have J : PySem.W.InstAt s1.heap a oe C (some od) := ⟨ha, hz.1, by unfold PySem.W.notCls; rw [hd] <;> rfl, by rw [hz.2]; exact ho⟩
  exact HandSPX.exc_get I1.kIn J T.ga T.gg T.exc (PySem.W.findObj_own T.hd no rfl (by rw [hl, hu])) (handed_of ru) ⟨v, H1, I1.tok _, ru, q⟩
/-- isinstance(e, ..), e the error that the suite holds -/
def rIsX (K : PySem.W.Frag) (a : Addr) (cls : Value) (d : Option Addr) : List V → Hp → VK → Prop := fun xs H Q =>
  ∃ (C : Addr) (c : V) (cu : Value) (b : Bool), xs = [.ref a, c] ∧ cls = .ref C ∧ (∀ dd, d = some dd → ∃ fs, H dd = some (.xd fs)) ∧ ErrC K C ∧ ClsV c cu ∧ PySem.W.kitOne K (.ref C) cu = some b ∧ Q (.bl b) H
theorem call_isX (hz : Zc cls d oe) (hf : ∃ vs, oe.data = .fields vs) : CallR (X.suite a ((a, oe) :: pn)) (.builtin "isinstance") (rIsX X.K a cls d) := by
  intro pins s σ H xs us Q I r h
  obtain ⟨C, c, cu, b, rfl, ec, hod, T, kc, ek, q⟩ := h
  obtain ⟨u1, u2, rfl, r1, r2⟩ := vals2 r
  obtain rfl : u1 = Value.ref a := r1
  have e2 := kc.eq r2
  subst e2
  subst ec
  obtain ⟨ha, _⟩ := I.pin (a, oe) (List.mem_append_left _ List.mem_cons_self)
  obtain ⟨vs, hd⟩ := hf
  have cls : (PySem.W.clsIn X.K C).isSome = true := by
    obtain ⟨cd, hcd, _⟩ := PySem.W.any_some T.hd
    rw [hcd]
    rfl
  have fin : ∀ tk, EP (X.suite a ((a, oe) :: pn)) pins σ Q (.bool b) { s with toks := tk } := fun tk => ⟨.bl b, H, I.tok tk, rfl, q⟩
  have no : PySem.W.notCls oe = true := by unfold PySem.W.notCls; rw [hd] <;> rfl
  cases d with
  | none =>
    exact PySem.W.kia_one (PySem.W.kitx_exc (od := none) cls T.ga T.gg T.exc T.hc T.hn T.ht T.hm) I.kIn (⟨ha, hz.1, no, by rw [hz.2]; exact trivial⟩ : PySem.W.InstAt s.heap a oe C none) ek (fun z => nomatch z) fin
  | some dx =>
    obtain ⟨fs, ed⟩ := hod dx rfl
    obtain ⟨mA, hns, _⟩ := xd_at I.hok ed
    obtain ⟨od, ho, _⟩ := lookIn_ns hns
    exact PySem.W.kia_one (PySem.W.kitx_exc (od := some od) cls T.ga T.gg T.exc T.hc T.hn T.ht T.hm) I.kIn (⟨ha, hz.1, no, by rw [hz.2]; exact ho⟩ : PySem.W.InstAt s.heap a oe C (some od)) ek (fun z => nomatch z) fin
end
end Wb

set_option Elab.async false
set_option linter.all false
set_option maxRecDepth 100000
set_option maxHeartbeats 4000000
/-! Wc0: a def by its name: what may be called (Cal, CalG), the rules of its calls, how one comes to be. -/
namespace Wb
open PySem PySem.Spec PyProof.Rows L2
/-- the def's record -/
def FdOf (x : Str) (st : Stmt) (fd : FuncData) : Prop := ∃ (kV dc pm : Value) (an : Option Addr) (cd ct : Value), fd = PySem.W.fnOf x x (defArgs st) (defBody st) (defScope st) .none kV dc pm an cd ct
section
variable (P : Program) (w : World) (K : PySem.W.Frag) (mg : Str → Option Value) (base : Heap)
/-- the def of this name, promised -/
def Cal (CX : CXT) (k : Nat) (x : Str) (st : Stmt) (ps : List Str) (sp : Sp) : Prop := ∃ (f : Addr) (fd : FuncData), FnOk P w K mg base CX k f fd ps sp ∧ mg x = some (.ref f) ∧ PySem.W.keepIn K (.ref f) = true ∧ Binds K fd ps [] ∧ FdOf x st fd
/-- .. where no repr runs -/
def CalG (CX : CXT) (k : Nat) (x : Str) (st : Stmt) (ps : List Str) (sp : Sp) : Prop := ∃ (f : Addr) (fd : FuncData), FnG P w K mg base CX k f fd ps sp ∧ mg x = some (.ref f) ∧ PySem.W.keepIn K (.ref f) = true ∧ Binds K fd ps [] ∧ FdOf x st fd
/-- the def of this name as it stands in the text -/
def Def (K : PySem.W.Frag) (mg : Str → Option Value) (x : Str) (st : Stmt) (ps : List Str) : Prop := ∃ (f : Addr) (fd : FuncData), Fun K x x st f fd ∧ mg x = some (.ref f) ∧ Binds K fd ps [] ∧ FdOf x st fd
end
section
variable {P : Program} {w : World} {K : PySem.W.Frag} {mg : Str → Option Value} {base : Heap} {CX : CXT} {k : Nat} {x : Str} {N ps : List Str} {sp : Sp} {st : Stmt}
theorem Cal.G (C : Cal P w K mg base CX k x st ps sp) : CalG P w K mg base CX k x st ps sp := by
  obtain ⟨f, fd, F, m, kp, b, o⟩ := C
  exact ⟨f, fd, .of F, m, kp, b, o⟩
theorem Cal.quiet (C : Cal P w K mg base (L2.CX P w) k x st ps sp) : Cal P w K mg base CX0 k x st ps (fun vs H Q _ => sp vs H Q (fun _ _ _ => False)) := by
  obtain ⟨f, fd, F, m, kp, b, o⟩ := C
  exact ⟨f, fd, Wb.quiet F, m, kp, b, o⟩
theorem Cal.weaken {sp' : Sp} (C : Cal P w K mg base CX k x st ps sp) (h : ∀ vs H Q E, sp' vs H Q E → sp vs H Q E) : Cal P w K mg base CX k x st ps sp' := by
  obtain ⟨f, fd, F, m, kp, b, o⟩ := C
  exact ⟨f, fd, ⟨fun vs H Q E z => F.len vs H Q E (h _ _ _ _ z), fun A outer s H args us vs Q E hr he hb hv hs => F.run A outer s H args us vs Q E hr he hb hv (h _ _ _ _ hs)⟩, m, kp, b, o⟩
theorem Def.ok (D : Def K mg x st ps) (S : FnScope N ps (defScope st)) (len : ∀ vs H Q E, sp vs H Q E → vs.length = ps.length)
    (hbody : ∀ (cdv : Value) (f : Addr) (A : Around) (outer : List Env) (s : Shared) (H : Hp) (vs : List V) (Q : VK) (E : XK), Room k (A.deeper (envOfC x (defScope st) s.heap.objs.size f cdv)) → sp vs H Q E →
      ∃ t, PSs (cxOf CX0 P w K mg base N x (defScope st) f cdv A outer s H E).nox (defBody st) t ∧ t { nx := fun _ H' => Q .non H', rt := Q } (start N vs) H) : Cal P w K mg base CX0 (k + 1) x st ps sp := by
  obtain ⟨f, fd, F, m, b, o⟩ := D
  exact ⟨f, fd, F.ok S len fun cdv => hbody cdv f, m, F.kp, b, o⟩
theorem Def.okX (D : Def K mg x st ps) (S : FnScope N ps (defScope st)) (len : ∀ vs H Q E, sp vs H Q E → vs.length = ps.length)
    (hbody : ∀ (cdv : Value) (f : Addr) (A : Around) (outer : List Env) (s : Shared) (H : Hp) (vs : List V) (Q : VK) (E : XK), Room k (A.deeper (envOfC x (defScope st) s.heap.objs.size f cdv)) → sp vs H Q E →
      ∃ t, PSs (cxOf (L2.CX P w) P w K mg base N x (defScope st) f cdv A outer s H E) (defBody st) t ∧ t { nx := fun _ H' => Q .non H', rt := Q } (start N vs) H) : Cal P w K mg base (L2.CX P w) (k + 1) x st ps sp := by
  obtain ⟨f, fd, F, m, b, o⟩ := D
  exact ⟨f, fd, F.okX S len fun cdv => hbody cdv f, m, F.kp, b, o⟩
theorem Def.okG (D : Def K mg x st ps) (S : FnScope N ps (defScope st)) (len : ∀ vs H Q E, sp vs H Q E → vs.length = ps.length)
    (hbody : ∀ (cdv : Value) (f : Addr) (A : Around) (outer : List Env) (s : Shared) (H : Hp) (vs : List V) (Q : VK) (E : XK),
      (A.deeper (envOfC x (defScope st) s.heap.objs.size f cdv)).guards = some [] → Room k (A.deeper (envOfC x (defScope st) s.heap.objs.size f cdv)) → sp vs H Q E →
      ∃ t, PSs (cxOf CX P w K mg base N x (defScope st) f cdv A outer s H E) (defBody st) t ∧ t { nx := fun _ H' => Q .non H', rt := Q } (start N vs) H) : CalG P w K mg base CX (k + 1) x st ps sp := by
  obtain ⟨f, fd, F, m, b, o⟩ := D
  exact ⟨f, fd, Wb.okG F S len fun cdv => hbody cdv f, m, F.kp, b, o⟩
end
section
variable {X : Cx} {CX : CXT} {k : Nat} {ps ks : List Str} {sp : Sp} {E : XK} {x : Str} {st : Stmt} {p pos : Pos} {e : Expr} {es : List Expr} {t : TA}
theorem pe_cal (C : Cal X.prog X.w X.K X.mg X.base CX k x st ps sp) (hr : Room k X.A) (hg : Gl X x) (hx : Passes CX X E)
    (ha : PA X (e :: es) t) (hdb : (x == ("__debug__" : Str)) = false := by decide) (he : starEach (e :: es) X.env = (false, eval e X.env) :: starEach es X.env := by rfl) (hpl : (backTo pos (starEach es X.env)).any (·.1) = false := by rfl) :
    PE X (.Call (.Name x p) (e :: es) [] pos) (tCall sp [] E t) := by
  obtain ⟨f, fd, F, m, kp, b, o⟩ := C
  exact pe_call F hr hg m kp b .nil hx ha hdb he hpl
theorem pe_cal0 (C : Cal X.prog X.w X.K X.mg X.base CX k x st ps sp) (hr : Room k X.A) (hg : Gl X x) (hx : Passes CX X E) (hdb : (x == ("__debug__" : Str)) = false := by decide) : PE X (.Call (.Name x p) [] [] pos) (tCall sp [] E tNil) := by
  obtain ⟨f, fd, F, m, kp, b, o⟩ := C
  exact pe_call0 F hr hg m kp b .nil hx hdb
theorem pe_calG (C : CalG X.prog X.w X.K X.mg X.base CX k x st ps sp) (gd : X.A.guards = some []) (hr : Room k X.A) (hg : Gl X x) (hx : Passes CX X E)
    (ha : PA X (e :: es) t) (hdb : (x == ("__debug__" : Str)) = false := by decide) (he : starEach (e :: es) X.env = (false, eval e X.env) :: starEach es X.env := by rfl) (hpl : (backTo pos (starEach es X.env)).any (·.1) = false := by rfl) :
    PE X (.Call (.Name x p) (e :: es) [] pos) (tCall sp [] E t) := by
  obtain ⟨f, fd, F, m, kp, b, o⟩ := C
  exact pe_callG F gd hr hg m kp b .nil hx ha hdb he hpl
/-- a def that may raise, called where it is caught, or let out -/
theorem pe_calS {E : L2.St → XK} (C : Cal X.prog X.w X.K X.mg X.base CX k x st ps sp) (hr : Room k X.A) (hg : Gl X x) (hx : ∀ σ, PassesAt CX X σ (E σ))
    (ha : PA X (e :: es) t) (hdb : (x == ("__debug__" : Str)) = false := by decide) (he : starEach (e :: es) X.env = (false, eval e X.env) :: starEach es X.env := by rfl) (hpl : (backTo pos (starEach es X.env)).any (·.1) = false := by rfl) :
    PE X (.Call (.Name x p) (e :: es) [] pos) (tCallS sp E t) := by
  obtain ⟨f, fd, F, m, kp, b, o⟩ := C
  exact pe_callS F hr hg m kp b hx ha hdb he hpl
end
/-- f(k = v, ..): ix tells, for each parameter, the place of its keyword among those written -/
def kwV (ix : List Nat) (zs : List V) : List V := ix.map fun i => zs.getD i .non
def kwU (ix : List Nat) (zs : List Value) : List Value := ix.map fun i => zs.getD i .none
theorem kw_rel {vs : List V} {us : List Value} (r : Vals vs us) : ∀ ix : List Nat, Vals (kwV ix vs) (kwU ix us)
  | [] => .nil
  | i :: ix => by
    refine .cons ?_ (kw_rel r ix)
    have go : ∀ {vs : List V} {us : List Value}, Vals vs us → ∀ i : Nat, RelV (vs.getD i .non) (us.getD i .none) := by
      intro vs us r
      induction r with
      | nil => intro i; exact rfl
      | cons h _ ih =>
        intro i
        cases i with
        | zero => exact h
        | succ i => exact ih i
    exact go r i
/-- how the keywords of such a call bind -/
def Kw (x : Str) (st : Stmt) (ps ks : List Str) (ix : List Nat) : Prop := ix.length = ps.length ∧ ∀ (kV dc pm : Value) (an : Option Addr) (cd ct : Value) (s : Shared) (ws : List Value), ws.length = ks.length →
  BindsTo s (PySem.W.fnOf x x (defArgs st) (defBody st) (defScope st) .none kV dc pm an cd ct) ⟨[], ks.zip ws⟩ (ps.zip (kwU ix ws))
section
variable {X : Cx} {CX : CXT} {k : Nat} {ps ks : List Str} {sp : Sp} {E : XK} {x : Str} {p pos : Pos} {st : Stmt} {kws : List Keyword} {tk : TA} {ix : List Nat}
def tCalK (sp : Sp) (ix : List Nat) (n : Nat) (E : XK) (tk : TA) : TE := fun σ H Q => tk σ H fun zs H2 => zs.length = n ∧ sp (kwV ix zs) H2 Q E
theorem pe_calK (C : Cal X.prog X.w X.K X.mg X.base CX k x st ps sp) (hr : Room k X.A) (hg : Gl X x) (hx : Passes CX X E) (hb : Kw x st ps ks ix)
    (hkw : PK X kws tk) (hall : (backToKw pos (keywordEach kws X.env)).all (·.1.isSome) = true := by rfl) (hks : (backToKw pos (keywordEach kws X.env)).filterMap (·.1) = ks := by rfl)
    (hdb : (x == ("__debug__" : Str)) = false := by decide) (hpl : ((backTo pos (starEach [] X.env)).any (·.1) || (backToKw pos (keywordEach kws X.env)).any (·.1.isNone)) = false := by rfl) :
    PE X (.Call (.Name x p) [] kws pos) (tCalK sp ix ks.length E tk) := by
  obtain ⟨f, fd, F, m, kp, b, ⟨kV, dc, pm, an, cd, ct, rfl⟩⟩ := C
  refine ⟨fun pins s σ H Q I h => ?_⟩
  refine wpAny_Call_Name_kw (ld_glob I hg m ?_ hdb)
  refine PySem.W.callWith_KW0 (h₀ := X.base) I.ok.mod.kin kp hall (thn (hkw.run pos pins s σ H _ I h) fun ws s2 ⟨zs, H2, I2, rz, hl, q2⟩ => ⟨I2.kIn, ?_⟩) hpl
  rw [hks]
  have hl2 : ws.length = ks.length := by rw [← rz.length]; exact hl
  have r2 := kw_rel rz ix
  refine wpAny_call (codeAny_mono (F.run X.A X.stack s2 H2 ⟨[], ks.zip ws⟩ (kwU ix ws) (kwV ix zs) _ E hr I2.env0 (hb.2 _ _ _ _ _ _ s2 ws hl2) r2 q2) fun r s' hq => ?_)
  cases r with
  | error e => exact hx pins σ H2 s2 e s' I2 hq
  | ok fl =>
    cases fl with
    | ret u => exact I2.after hq
    | next => exact False.elim hq
    | brk => exact False.elim hq
    | cont => exact False.elim hq
theorem pe_calKG (C : CalG X.prog X.w X.K X.mg X.base CX k x st ps sp) (gd : X.A.guards = some []) (hr : Room k X.A) (hg : Gl X x) (hx : Passes CX X E) (hb : Kw x st ps ks ix)
    (hkw : PK X kws tk) (hall : (backToKw pos (keywordEach kws X.env)).all (·.1.isSome) = true := by rfl) (hks : (backToKw pos (keywordEach kws X.env)).filterMap (·.1) = ks := by rfl)
    (hdb : (x == ("__debug__" : Str)) = false := by decide) (hpl : ((backTo pos (starEach [] X.env)).any (·.1) || (backToKw pos (keywordEach kws X.env)).any (·.1.isNone)) = false := by rfl) :
    PE X (.Call (.Name x p) [] kws pos) (tCalK sp ix ks.length E tk) := by
  obtain ⟨f, fd, F, m, kp, b, ⟨kV, dc, pm, an, cd, ct, rfl⟩⟩ := C
  refine ⟨fun pins s σ H Q I h => ?_⟩
  refine wpAny_Call_Name_kw (ld_glob I hg m ?_ hdb)
  refine PySem.W.callWith_KW0 (h₀ := X.base) I.ok.mod.kin kp hall (thn (hkw.run pos pins s σ H _ I h) fun ws s2 ⟨zs, H2, I2, rz, hl, q2⟩ => ⟨I2.kIn, ?_⟩) hpl
  rw [hks]
  have hl2 : ws.length = ks.length := by rw [← rz.length]; exact hl
  have r2 := kw_rel rz ix
  refine wpAny_call (codeAny_mono (F.go X.A X.stack s2 H2 ⟨[], ks.zip ws⟩ (kwU ix ws) (kwV ix zs) _ E gd hr I2.env0 (hb.2 _ _ _ _ _ _ s2 ws hl2) r2 q2) fun r s' hq => ?_)
  cases r with
  | error e => exact hx pins σ H2 s2 e s' I2 hq
  | ok fl =>
    cases fl with
    | ret u => exact I2.after hq
    | next => exact False.elim hq
    | brk => exact False.elim hq
    | cont => exact False.elim hq
end
/-! ### what the head finds -/
/-- a def as the top has left it -/
def FnF (K : PySem.W.Frag) (nm q : Str) (st : Stmt) (f : Addr) : Prop := ∃ (oc : Value) (od : Option Addr) (kV dc pm : Value) (an : Option Addr) (cd ct : Value) (sl : Array (Option Value)),
  K.lookup f = some ⟨oc, od, .func (PySem.W.fnOf nm q (defArgs st) (defBody st) (defScope st) .none kV dc pm an cd ct), sl⟩ ∧ PySem.W.codeIn K cd q = true ∧ PySem.W.keepIn K (.ref f) = true
theorem FnF.mk2 {K : PySem.W.Frag} {nm q : Str} {st : Stmt} {f : Addr} {oc : Value} {od : Option Addr} {kV dc pm : Value} {an : Option Addr} {cd ct : Value} {sl : Array (Option Value)}
    (l : K.lookup f = some ⟨oc, od, .func (PySem.W.fnOf nm q (defArgs st) (defBody st) (defScope st) .none kV dc pm an cd ct), sl⟩) (c : PySem.W.codeIn K cd q = true) (k : PySem.W.keepIn K (.ref f) = true) : FnF K nm q st f := ⟨oc, od, kV, dc, pm, an, cd, ct, sl, l, c, k⟩
theorem FnF.def_ {K : PySem.W.Frag} {mg : Str → Option Value} {h : Heap} (X : K.In h) (G : h.Ns mainGlobals mg) {x : Str} {st : Stmt} {ps : List Str} {f : Addr} (z : PySem.W.nsIn K mainGlobals x = some (some (.ref f))) (y : FnF K x x st f)
    (b : ∀ (kV doc pm : Value) (an : Option Addr) (cdv ct : Value) (us : List Value), us.length = ps.length → bindArgs (PySem.W.fnOf x x (defArgs st) (defBody st) (defScope st) .none kV doc pm an cdv ct) ⟨us, []⟩ = pure (ps.zip us)) : Def K mg x st ps := by
  obtain ⟨oc, od, kV, dc, pm, an, cd, ct, sl, l, c, kp⟩ := y
  exact ⟨f, _, fun_mk l c kp, PySem.W.mg_of X G z, .all (b kV dc pm an cd ct), kV, dc, pm, an, cd, ct, rfl⟩
end Wb

set_option Elab.async false
set_option linter.all false
set_option maxRecDepth 100000
set_option maxHeartbeats 4000000
/-! Wc1: own exceptions by their names: what the head finds of them, how they are raised, caught, asked. -/
namespace Wb
open PySem PySem.Spec PyProof.Rows L2
section
variable {K : PySem.W.Frag}
/-- an own exception's class as the top has left it: what stands above it in its chain, and how it is made -/
def ClsRow (K : PySem.W.Frag) (C : Addr) (top : List Value) (newId : String) : Prop :=
  ∃ (nm q : Str) (N : Addr) (bs : List Value) (sn : List Str) (sub : List Value) (ab : Bool) (col : Option Bool) (dd : Option Addr) (k0 k1 k2 k3 k5 : Option Value),
    K.lookup C = some (excClassObj nm q C N bs top true sn sub ab col dd k0 k1 k2 k3 k5 newId)
structure EF (K : PySem.W.Frag) (C : Addr) (top : List Value) (newId : String) : Prop where
  row : ClsRow K C top newId
  sa : PySem.W.findIn K (.ref C) "__setattr__" = some (some (.builtin "object.__setattr__"))
  ga : PySem.W.findIn K (.ref C) "__getattribute__" = some (some (.builtin "BaseException.__getattribute__"))
  gg : PySem.W.findIn K (.ref C) "__getattr__" = some none
  exc : PySem.W.subIn K (.ref C) (.type "BaseException") = some true
  ty : PySem.W.typeIn K (.ref C) = some (.type "type")
  hd : PySem.W.hasDictIn K C = true
  kp : PySem.W.keepIn K (.ref C) = true
  hc : PySem.W.findIn K (.ref C) "__class__" = some (some (.builtin "object.__class__"))
  hm : PySem.W.mroIn K C (.type "object") = some true
theorem EF.err {C : Addr} {top : List Value} {newId B initId S : String} {bmB bmS : List Value} (e : EF K C top newId) (FB : PySem.ExcBaseFacts B newId initId bmB) (SF : PySem.StoreFacts S bmS "object.__setattr__" "object") (ch : PySem.WbE.Chain top B)
    (tl : PySem.W.excTail bmS top = true) (hn : PySem.W.specialIn K (.builtin "object.__class__") "__get__" = some (some (.builtin "getset_descriptor.__get__"))) (ht : PySem.W.takesIn K (.builtin "object.__class__") = some true) : ErrC K C := by
  obtain ⟨nm, q, N, bs, sn, sub, ab, col, dd, k0, k1, k2, k3, k5, xL⟩ := e.row
  refine ⟨⟨B, newId, initId, bmB, nm, q, N, bs, top, sn, sub, ab, col, dd, k0, k1, k2, k3, k5, FB, ch, xL⟩, ⟨S, bmS, SF, ?_⟩, e.sa, e.ga, e.gg, e.exc, e.ty, e.hd, e.kp, e.hc, hn, ht, e.hm⟩
  unfold PySem.W.excOver PySem.W.clsIn
  rw [xL]
  show (C == C && PySem.W.excTail bmS top) = true
  rw [tl]
  simp
/-- what is below what -/
structure Row (K : PySem.W.Frag) (C : Addr) (top : List Value) : Prop where
  sub : ∀ v, PySem.W.subIn K (.ref C) v = some ((Value.ref C :: top).contains v)
  cls : (PySem.W.clsIn K C).isSome = true
  ty : PySem.W.typeIn K (.ref C) = some (.type "type")
theorem EF.chain {C : Addr} {top : List Value} {newId : String} (e : EF K C top newId) : Row K C top := by
  obtain ⟨nm, q, N, bs, sn, sub, ab, col, dd, k0, k1, k2, k3, k5, xL⟩ := e.row
  refine ⟨fun v => ?_, ?_, e.ty⟩
  · show PySem.W.mroIn K C v = _
    unfold PySem.W.mroIn PySem.W.clsIn
    rw [xL]
    rfl
  · unfold PySem.W.clsIn
    rw [xL]
    rfl
theorem Row.one_ty {C : Addr} {top : List Value} {X : String} (r : Row K C top) (km : PySem.W.kitMeta X = true) : PySem.W.kitOne K (.ref C) (.type X) = some (top.contains (.type X)) := by
  unfold PySem.W.kitOne
  rw [if_neg (by simp)]
  show (if PySem.W.kitMeta X = true then PySem.W.subIn K (.ref C) (.type X) else none) = _
  rw [if_pos km, r.sub]
  simp
theorem Row.one_ref {C D : Addr} {top up : List Value} (r : Row K C top) (r2 : Row K D up) : PySem.W.kitOne K (.ref C) (.ref D) = some (decide (C = D) || top.contains (.ref D)) := by
  unfold PySem.W.kitOne
  by_cases h : C = D
  · subst h
    rw [if_pos (by simp)]
    simp
  · rw [if_neg (by simpa using h)]
    show (if ((PySem.W.clsIn K D).isSome && PySem.W.typeIn K (.ref D) == some (.type "type")) = true then PySem.W.subIn K (.ref C) (.ref D) else none) = _
    rw [r2.cls, r2.ty, if_pos (by simp), r.sub]
    have h' : ¬ D = C := fun e => h e.symm
    simp [h, h']
theorem Row.exm_ref {C D : Addr} {top up : List Value} (r : Row K C top) (r2 : Row K D up) (b : up.contains (.type "BaseException") = true) : PySem.W.exmOne K (.ref C) (.ref D) = some (decide (C = D) || top.contains (.ref D)) := by
  unfold PySem.W.exmOne
  rw [r2.sub, if_pos (by rw [List.contains_cons, b]; simp)]
  show (if ((PySem.W.clsIn K D).isSome && PySem.W.typeIn K (.ref D) == some (.type "type")) = true then PySem.W.subIn K (.ref C) (.ref D) else none) = _
  rw [r2.cls, r2.ty, if_pos (by simp), r.sub]
  by_cases h : C = D
  · subst h
    simp
  · have h' : ¬ D = C := fun e => h e.symm
    simp [h, h']
theorem Row.exm_ty {C : Addr} {top : List Value} {X : String} (r : Row K C top) (km : PySem.W.kitMeta X = true) (b : PySem.W.subIn K (.type X) (.type "BaseException") = some true) : PySem.W.exmOne K (.ref C) (.type X) = some (top.contains (.type X)) := by
  unfold PySem.W.exmOne
  rw [b, if_pos (by simp)]
  show (if PySem.W.kitMeta X = true then PySem.W.subIn K (.ref C) (.type X) else none) = _
  rw [if_pos km, r.sub]
  simp
theorem ClsRow.mk2 {C : Addr} {top : List Value} {newId : String} {nm q : Str} {N : Addr} {bs : List Value} {sn : List Str} {sub : List Value} {ab : Bool} {col : Option Bool} {dd : Option Addr} {k0 k1 k2 k3 k5 : Option Value}
    (l : K.lookup C = some (excClassObj nm q C N bs top true sn sub ab col dd k0 k1 k2 k3 k5 newId)) : ClsRow K C top newId := ⟨nm, q, N, bs, sn, sub, ab, col, dd, k0, k1, k2, k3, k5, l⟩

end
def topE (CB : Addr) : List Value := [.ref CB, .type "Exception", .type "BaseException", .type "object"]
def topK : List Value := [.type "KeyError", .type "LookupError", .type "Exception", .type "BaseException", .type "object"]
def topB : List Value := [.type "Exception", .type "BaseException", .type "object"]
section
variable (P : Program) (w : World) (K : PySem.W.Frag) (mg : Str → Option Value) (base : Heap)
/-- an own exception with one field -/
structure Err (x fld : Str) (C : Addr) (top : List Value) : Prop where
  T : ErrC K C
  g : mg x = some (.ref C)
  row : Row K C top
  no : PySem.W.findIn K (.ref C) fld = some none
  ini : ∃ (fI : Addr) (fd : FuncData), PySem.W.findIn K (.ref C) "__init__" = some (some (.ref fI)) ∧ PySem.W.typeIn K (.ref fI) = some (.type "function") ∧ FnOk P w K mg base CX0 1 fI fd ["self", fld] (spIni C fld) ∧ Binds K fd ["self", fld] []
/-- an own exception without fields -/
structure ErrB (K : PySem.W.Frag) (mg : Str → Option Value) (x : Str) (C : Addr) (top : List Value) : Prop where
  T : ErrC K C
  g : mg x = some (.ref C)
  row : Row K C top
end
section
variable {P : Program} {w : World} {K : PySem.W.Frag} {mg : Str → Option Value} {base : Heap} {x fld y g : Str} {C D B : Addr} {top : List Value}
theorem Err.exm_self (Z : Err P w K mg base x fld C top) (h : top.contains (.type "BaseException") = true) : PySem.W.exmOne K (.ref C) (.ref C) = some true := by
  rw [Z.row.exm_ref Z.row h]
  simp
theorem Err.is_self (Z : Err P w K mg base x fld C top) : PySem.W.kitOne K (.ref C) (.ref C) = some true := by
  rw [Z.row.one_ref Z.row]
  simp
theorem Err.is_base (Z : Err P w K mg base x fld C (topE B)) (ZB : ErrB K mg y B topB) : PySem.W.kitOne K (.ref C) (.ref B) = some true := by
  rw [Z.row.one_ref ZB.row]
  simp [topE]
theorem Err.isnt {up : List Value} (Z : Err P w K mg base x fld C (topE B)) (Y : Err P w K mg base y g D up) (h1 : C ≠ D) (h2 : D ≠ B) : PySem.W.kitOne K (.ref C) (.ref D) = some false := by
  rw [Z.row.one_ref Y.row]
  simp [topE, h1, h2]
end
section
variable {X : Cx} {x fld : Str} {C : Addr} {top : List Value} {k : Nat} {p pos : Pos} {e : Expr} {es : List Expr} {ta : TA}
/-- raise C(e) -/
theorem pmk_E (Z : Err X.prog X.w X.K X.mg X.base x fld C top) (hr : Room k X.A) (hk : 2 ≤ k) (hg : Gl X x) (ha : PA X (e :: es) ta) (hdb : (x == ("__debug__" : Str)) = false := by decide)
    (he : starEach (e :: es) X.env = (false, eval e X.env) :: starEach es X.env := by rfl) (hpl : (backTo pos (starEach es X.env)).any (·.1) = false := by rfl) : PMk X (.Call (.Name x p) (e :: es) [] pos) (tErrX C fld ta) := by
  obtain ⟨fI, fd, iC, tI, F1, hb⟩ := Z.ini
  exact pmk_err Z.T iC tI F1 (hr.mono hk) hb pass0 hg Z.g ha hdb he hpl
end
end Wb

set_option Elab.async false
set_option linter.all false
set_option maxRecDepth 100000
set_option maxHeartbeats 4000000
/-! Wc2: the law's own call, for a def by its name; the head's ends. -/
namespace Wb
open PySem PySem.Spec PyProof.Rows L2

/-- the law's def, promised where no repr runs, called from outside -/
theorem lawG2 {P : Program} {w : World} {K : PySem.W.Frag} {mg mb : Str → Option Value} {CX : CXT} {k : Nat} {fa a : Addr} {x : Str} {sp : Sp} {st : Shared} {vs : List Value} {ns : List Int}
    (inK : K.In st.heap) (names : st.heap.Ns mainGlobals mg) (bns : st.heap.Ns builtinsNs mb) (boot : ∀ x : Str, x ≠ "__name__" → mb x = bootBuiltins x) (lim : st.heap.NoLimit) (nogen : st.gens = #[])
    (atA : st.heap.get? a = some { cls := .type "list", data := .seq vs.toArray }) (areInts : IntsAre vs ns) (short : ns.length ≤ sizeLine) (room : Room k callerA)
    (F : ∀ base : Heap, K.In base → base.Ns mainGlobals mg → ∃ fd : FuncData, (∀ (s : Shared) (u : Value), BindsTo s fd ⟨[u], []⟩ [(x, u)]) ∧ FnG P w K mg base CX k fa fd [x] sp)
    (want : ∀ H : Hp, Only H → SqL K H a (ns.map V.int) → sp [.ref a] H (fun v _ => v = .bl true) fun _ _ _ => False)
    (noX : ∀ H e s', CX [] H st (fun _ _ _ => False) e s' → False) :
    codeAny (model P w) callerA (.call (.ref fa) ⟨[.ref a], []⟩) (fun r s' => r = .ok (.ret (.bool true)) ∧ OldK st.heap s'.heap ∧ s'.os = st.os ∧ AllBare s'.gens) st := by
  have rel := vals_ints areInts
  have same := areInts.length
  -- what is told of any abstract heap that tracks the script at most
  suffices go : ∀ H : Hp, Only H → SqL K H a (ns.map V.int) → HOk P w H st.heap → (∀ b, H b ≠ none → b = a) → (H a ≠ none → K.lookup a = none) →
      codeAny (model P w) callerA (.call (.ref fa) ⟨[.ref a], []⟩) (fun r s' => r = .ok (.ret (.bool true)) ∧ OldK st.heap s'.heap ∧ s'.os = st.os ∧ AllBare s'.gens) st by
    rcases own : K.lookup a with _ | ob
    · -- the script is tracked, as a thing that stands still
      let frozen : HO := .frz { cls := .type "list", data := .seq vs.toArray } (.lst (ns.map V.int))
      refine go (fun b => if b = a then some frozen else none) ?_ ?_ ?_ ?_ (fun _ => own)
      · intro b
        by_cases e : b = a
        · exact Or.inr ⟨_, _, if_pos e⟩
        · exact Or.inl (if_neg e)
      · exact Or.inl (Or.inr ⟨_, if_pos rfl⟩)
      · intro b u e
        by_cases h : b = a
        · subst h
          cases (if_pos rfl).symm.trans e
          exact ⟨atA, by simpa using short, vs, _, rel, atA⟩
        · cases (if_neg h).symm.trans e
      · intro b e
        by_cases h : b = a
        · exact h
        · exact absurd (if_neg h) e
    · -- the script is one of the module's own objects
      have there := inK a ob own
      rw [atA] at there
      cases there
      refine go (fun _ => none) (fun _ => Or.inl rfl) ?_ (fun b u e => ?_) (fun b e => absurd rfl e) (fun e => absurd rfl e)
      · exact Or.inr ⟨_, vs.toArray, _, own, rfl, rfl, rfl, by rw [List.size_toArray, same]; exact short, by simpa using rel⟩
      · have e' : (none : Option HO) = some u := e
        cases e'
  intro H only seq ok just notK
  have keepB : ∀ {b : Addr} {o : Obj}, st.heap.get? b = some o → H b = none → (hidT st.heap H).get? b = some o := fun e n => hidT_get e n
  have dictFree : ∀ {b : Addr} {o : Obj} {es : Array DictEntry} {ep : Nat}, st.heap.get? b = some o → o.data = .dict es ep → H b = none := by
    intro b o es ep e d
    by_cases q : H b = none
    · exact q
    · have h := just b q
      subst h
      rw [atA] at e
      cases e
      have d' : Data.seq vs.toArray _ = Data.dict es ep := d
      cases d'
  have nsIn : ∀ {b : Addr} {m : Str → Option Value}, st.heap.Ns b m → (hidT st.heap H).Ns b m := by
    rintro b m ⟨o, es, ep, e, d, r⟩
    exact ⟨o, es, ep, keepB e (dictFree e d), d, r⟩
  have inBase : K.In (hidT st.heap H) := by
    intro b o e
    refine keepB (inK b o e) ?_
    by_cases q : H b = none
    · exact q
    · have h := just b q
      subst h
      rw [notK q] at e
      cases e
  have md : Mod K mg (hidT st.heap H) := by
    obtain ⟨mc, l1, l2⟩ := lim
    exact ⟨inBase, nsIn names, ⟨mb, nsIn bns, boot⟩, ⟨mc, nsIn l1, l2⟩⟩
  have env0 : Env0 P w K mg (hidT st.heap H) callerA [] st H :=
    ⟨rfl, md, fun b o e => of_hidT e, Nat.le_of_eq (hidT_size _ _), trivial, fun b hb => absurd (show b ∈ ([] : List Addr) from hb) (by simp), ok, .of_eq nogen⟩
  obtain ⟨fd, bind1, FF⟩ := F _ inBase (nsIn names)
  have ran := FF.go callerA [] st H ⟨[.ref a], []⟩ [.ref a] [.ref a] _ _ rfl room env0 (bind1 st (.ref a)) (.cons rfl .nil) (want H only seq)
  refine codeAny_mono ran ?_
  intro r s' h
  match r, h with
  | .error e, h => exact (noX H e s' h).elim
  | .ok (.ret u), h =>
    obtain ⟨v, H', os, bare, un, ok', rv, q⟩ := h
    have q' : v = .bl true := q
    subst q'
    obtain rfl : u = Value.bool true := rv
    refine ⟨rfl, OldK.of_keep ?_, os, bare⟩
    intro b o e
    by_cases q : H b = none
    · exact un.keep b o e q (fun z => absurd (show b ∈ ([] : List Addr) from z) (by simp)) (by simp)
    · rcases only b with z | ⟨ob, xs, z⟩
      · exact absurd z q
      · obtain ⟨e1, _⟩ := ok b _ z
        obtain ⟨e2, _⟩ := ok' b _ (un.frzs b ob _ z)
        rw [e] at e1
        cases e1
        exact e2

/-- the goal that the head leaves, from such a promise of the law's def -/
theorem walkG2 {l : PySem.W.OpenLaw} {n k : Nat} {q : Program} {loose : List Str} {XP : (Str → Option Value) → Heap → Prop} {YP : World → Heap → Prop} {d : DefRec} {K : Params → PySem.W.Frag} {CX : World → CXT} {sp : World → Sp} {x : Str}
    (h1 : l.most = some n) (h2 : n ≤ sizeLine) (h3 : d.params.defaults = []) (room : Room k callerA) (hY : ∀ (w : World) (h : Heap), YP w h → (K w.params).In h)
    (F : ∀ (w : World) (mg : Str → Option Value) (fa : Addr) (h : Heap), (K w.params).In h → h.Ns mainGlobals mg → mg d.name = some (.ref fa) →
      ∀ base : Heap, (K w.params).In base → base.Ns mainGlobals mg → ∃ fd : FuncData, (∀ (s : Shared) (u : Value), BindsTo s fd ⟨[u], []⟩ [(x, u)]) ∧ FnG l.prog w (K w.params) mg base (CX w) k fa fd [x] (sp w))
    (want : ∀ (w : World) (H : Hp) (a : Addr) (ns : List Int), ns.length ≤ n → Only H → SqL (K w.params) H a (ns.map V.int) → sp w [.ref a] H (fun v _ => v = .bl true) fun _ _ _ => False)
    (noX : ∀ (w : World) (H : Hp) (s : Shared) (e : Value) (s' : Shared), CX w [] H s (fun _ _ _ => False) e s' → False) :
    PySem.W.WalkO q loose XP YP l.row.toRowW d [] (fun f vs => PySem.call f vs) := by
  apply Att.attach_call h1 h3
  intro w s₀ s₁ mg mb fa o pm cd doc a vs ns G Y ho hd hcd hmg hobj hints hlen hg
  have inK := hY w _ Y
  have hF := F w mg fa _ inK G.T.g hmg
  exact lawG2 inK G.T.g G.T.b G.T.builtins G.T.nolimit hg hobj hints (Nat.le_trans hlen h2) room hF (fun H hO hS => want w H a ns hlen hO hS) fun H e s' => noX w H s₁ e s'
theorem FnF.fn {K : PySem.W.Frag} {nm q : Str} {st : Stmt} {f : Addr} (h : FnF K nm q st f) : ∃ (kV dc pm : Value) (an : Option Addr) (cd ct : Value), Fun K nm q st f (PySem.W.fnOf nm q (defArgs st) (defBody st) (defScope st) .none kV dc pm an cd ct) := by
  obtain ⟨oc, od, kV, dc, pm, an, cd, ct, sl, l, c, k⟩ := h
  exact ⟨kV, dc, pm, an, cd, ct, fun_mk l c k⟩
/-- what the head needs of the law -/
theorem CalG.law {P : Program} {w : World} {K : PySem.W.Frag} {mg : Str → Option Value} {base : Heap} {k : Nat} {st : Stmt} {sp : Sp} {fa : Addr} (C : CalG P w K mg base CX0 k "law" st ["script"] sp) (hfa : mg "law" = some (.ref fa))
    (hb : ∀ (kV dc pm : Value) (an : Option Addr) (cd ct : Value) (s : Shared) (u : Value), BindsTo s (PySem.W.fnOf "law" "law" (defArgs st) (defBody st) (defScope st) .none kV dc pm an cd ct) ⟨[u], []⟩ [("script", u)]) :
    ∃ fd : FuncData, (∀ (s : Shared) (u : Value), BindsTo s fd ⟨[u], []⟩ [("script", u)]) ∧ FnG P w K mg base CX0 k fa fd ["script"] sp := by
  obtain ⟨f, fd, F, m, _, _, kV, dc, pm, an, cd, ct, rfl⟩ := C
  have e := m.symm.trans hfa
  cases e
  exact ⟨_, hb kV dc pm an cd ct, F⟩
/-- the law of a script -/
def spLaw (K : PySem.W.Frag) : Sp := fun vs H Q _ => ∃ (a : Addr) (ns : List Int), vs = [.ref a] ∧ SqL K H a (ns.map V.int) ∧ ns.length ≤ 63 ∧ ∀ H', Q (.bl true) H'
theorem walk2 {l : PySem.W.OpenLaw} {q : Program} {loose : List Str} {XP : (Str → Option Value) → Heap → Prop} {YP : World → Heap → Prop} {d : DefRec} {K : Params → PySem.W.Frag} {k : Nat} (room : Room k callerA) (hn : l.most = some 63) (hdf : d.params.defaults = [])
    (hY : ∀ (w : World) (h : Heap), YP w h → (K w.params).In h)
    (F : ∀ (w : World) (mg : Str → Option Value) (fa : Addr) (h : Heap), (K w.params).In h → h.Ns mainGlobals mg → mg d.name = some (.ref fa) →
      ∀ base : Heap, (K w.params).In base → base.Ns mainGlobals mg → ∃ fd : FuncData, (∀ (s : Shared) (u : Value), BindsTo s fd ⟨[u], []⟩ [("script", u)]) ∧ FnG l.prog w (K w.params) mg base CX0 k fa fd ["script"] (spLaw (K w.params))) :
    PySem.W.WalkO q loose XP YP l.row.toRowW d [] (fun f vs => PySem.call f vs) :=
  walkG2 (n := 63) (k := k) (x := "script") (CX := fun _ => CX0) (sp := fun w => spLaw (K w.params)) hn (by decide) hdf room hY F (fun _ _ a ns hl _ hS => ⟨a, ns, rfl, hS, hl, fun _ => rfl⟩) fun _ _ _ _ _ z => z
/-- a written tuple of ints -/
theorem tup_of {K : PySem.W.Frag} {a : Addr} {od : Option Addr} {its : Array Value} {n : Nat} {sl : Array (Option Value)} {xs : List V} (l : K.lookup a = some ⟨.type "tuple", od, .seq its n, sl⟩) (hz : its.size ≤ sizeLine) (r : Vals xs its.toList) : ∀ H, SqT K H a xs :=
  fun H => .inr ⟨_, its, n, l, rfl, rfl, hz, r⟩
end Wb

set_option Elab.async false
set_option linter.all false
set_option maxRecDepth 100000
set_option maxHeartbeats 4000000
/-! Wd0: what may be shown, ints of some hundred figures among it. -/
namespace Wb
open PySem PySem.Spec PyProof.Rows L2
/-- what repr asks of data -/
def Shw (d : PyData) : Prop := d.showable = true ∧ d.hasDict = false ∧ d.depth ≤ 60 ∧ d.shown.length ≤ sizeLine
structure Tb (n W : Nat) (e : PyData) : Prop where
  shows : e.showable = true
  noDict : e.hasDict = false
  deep : e.depth ≤ n
  short : e.leavesShort 2000 = true
  light : e.bulk ≤ W
structure TbAll (n W : Nat) (es : List PyData) : Prop where
  shows : PyData.showableAll es = true
  noDict : PyData.hasDictAll es = false
  deep : PyData.depthAll es ≤ n
  short : PyData.leavesShortAll 2000 es = true
  light : PyData.bulkAll es ≤ W
theorem Tb.shw {n W : Nat} {e : PyData} (t : Tb n W e) (h : n ≤ 60 := by decide) (hw : W ≤ 8000 := by decide) : Shw e := by
  refine ⟨t.shows, t.noDict, Nat.le_trans t.deep h, ?_⟩
  have q := PyData.shown_le_bulk 2000 (by decide) e t.short
  have l := t.light
  rw [sizeLine_eq]
  omega
theorem Tb.more {n m W Z : Nat} {e : PyData} (t : Tb n W e) (h1 : n ≤ m) (h2 : W ≤ Z) : Tb m Z e :=
  ⟨t.shows, t.noDict, Nat.le_trans t.deep h1, t.short, Nat.le_trans t.light h2⟩
theorem TbAll.nil {n : Nat} : TbAll n 0 [] := ⟨by simp [PyData.showableAll], by simp [PyData.hasDictAll], by simp [PyData.depthAll], by simp [PyData.leavesShortAll], by simp [PyData.bulkAll]⟩
theorem TbAll.cons {n V W : Nat} {e : PyData} {es : List PyData} (t : Tb n V e) (h : TbAll n W es) : TbAll n (V + 1 + W) (e :: es) := by
  obtain ⟨a1, a2, a3, a4, a5⟩ := t
  obtain ⟨b1, b2, b3, b4, b5⟩ := h
  refine ⟨by simp [PyData.showableAll, a1, b1], by simp [PyData.hasDictAll, a2, b2], ?_, by simp [PyData.leavesShortAll, a4, b4], ?_⟩
  · simp only [PyData.depthAll]
    exact Nat.max_le.mpr ⟨a3, b3⟩
  · simp only [PyData.bulkAll]
    omega
theorem TbAll.of {n W : Nat} : ∀ {es : List PyData}, (∀ e ∈ es, Tb n W e) → TbAll n (es.length * (W + 1)) es
  | [], _ => by
    have := TbAll.nil (n := n)
    simpa using this
  | e :: es, h => by
    have a := TbAll.cons (h e List.mem_cons_self) (TbAll.of fun x hx => h x (List.mem_cons_of_mem _ hx))
    have q : (e :: es).length * (W + 1) = W + 1 + es.length * (W + 1) := by
      rw [List.length_cons, Nat.succ_mul]
      omega
    rw [q]
    exact a
theorem TbAll.more {n m W Z : Nat} {es : List PyData} (t : TbAll n W es) (h1 : n ≤ m) (h2 : W ≤ Z) : TbAll m Z es :=
  ⟨t.shows, t.noDict, Nat.le_trans t.deep h1, t.short, Nat.le_trans t.light h2⟩
theorem TbAll.list {n W : Nat} {es : List PyData} (h : TbAll n W es) : Tb (n + 1) W (.list es) := by
  obtain ⟨b1, b2, b3, b4, b5⟩ := h
  refine ⟨by simpa [PyData.showable] using b1, by simpa [PyData.hasDict] using b2, ?_, by simpa [PyData.leavesShort] using b4, by simpa [PyData.bulk] using b5⟩
  simp only [PyData.depth]
  omega
theorem TbAll.tuple {n W : Nat} {es : List PyData} (h : TbAll n W es) : Tb (n + 1) W (.tuple es) := by
  obtain ⟨b1, b2, b3, b4, b5⟩ := h
  refine ⟨by simpa [PyData.showable] using b1, by simpa [PyData.hasDict] using b2, ?_, by simpa [PyData.leavesShort] using b4, by simpa [PyData.bulk] using b5⟩
  simp only [PyData.depth]
  omega
theorem tb_none : Tb 0 0 .none := ⟨by decide +kernel, by decide +kernel, by decide +kernel, by decide +kernel, by decide +kernel⟩
theorem tb_bool (b : Bool) : Tb 0 0 (.bool b) := by cases b <;> exact ⟨by decide +kernel, by decide +kernel, by decide +kernel, by decide +kernel, by decide +kernel⟩
theorem tb_int {i : Int} (h : i.natAbs < 2 ^ 1900) : Tb 0 0 (.int i) := by
  have l : i.natAbs.log2 < 1900 := log_le h (by decide)
  refine ⟨?_, by simp [PyData.hasDict], by simp [PyData.depth], ?_, by simp [PyData.bulk]⟩
  · simp only [PyData.showable, decide_eq_true_eq]
    omega
  · simp only [PyData.leavesShort, decide_eq_true_eq]
    have := int_text_length_le (a := i) (by decide) l
    show (Str.ofString (toString i)).length ≤ 2000
    have e : (Str.ofString (toString i)).length = (toString i).length := by
      rw [Str.ofString_eq_toList]
      simp [Str.length]
      exact String.length_toList
    rw [e]
    omega
theorem tb_str {x : Str} {n : Nat} (h : ∀ a ∈ x.cps.toList, a < 16 ^ 8) (few : x.length ≤ n) : Tb 0 n (.str x) := by
  refine ⟨by simp [PyData.showable], by simp [PyData.hasDict], by simp [PyData.depth], ?_, ?_⟩
  · simp only [PyData.leavesShort, List.all_eq_true, decide_eq_true_eq]
    exact h
  · simp only [PyData.bulk]
    exact few
end Wb

set_option Elab.async false
set_option linter.all false
set_option maxRecDepth 100000
set_option maxHeartbeats 4000000
/-! Wv0: what an expression is worth, told apart from what may change: a base heap that only grows, values by relations. -/
namespace Wv
open PySem PySem.Spec PyProof.Rows L2 Wb

/-- a base within a heap, and both later: nothing hidden comes into the base -/
structure Ext (B H B' H' : Hp) : Prop where
  hh : Same H H'
  bb : Same B B'
  bh : Same B' H'
  nw : ∀ b, H b ≠ none → B b = none → B' b = none
theorem Ext.refl {B H : Hp} (s : Same B H) : Ext B H B H := ⟨Same.refl _, Same.refl _, s, fun _ _ h => h⟩
theorem Ext.trans {B H B1 H1 B2 H2 : Hp} (a : Ext B H B1 H1) (b : Ext B1 H1 B2 H2) : Ext B H B2 H2 :=
  ⟨a.hh.trans b.hh, a.bb.trans b.bb, b.bh, fun x h1 h2 => by
    refine b.nw x ?_ (a.nw x h1 h2)
    cases e : H x with
    | none => exact absurd e h1
    | some o =>
      rw [a.hh x o e]
      exact fun z => nomatch z⟩
/-- a new object, in the base too -/
theorem Ext.new {B H : Hp} {p : Addr} {o : HO} (s : Same B H) (h : H p = none) : Ext B H (upd B p o) (upd H p o) :=
  ⟨new_same h, new_same (s.free h), fun b u z => by
    by_cases e : b = p
    · subst e
      rw [upd_same] at *
      exact z
    · rw [upd_ne e] at *
      exact s b u z, fun b h1 h2 => by
    have e : b ≠ p := fun e => h1 (by rw [e]; exact h)
    rw [upd_ne e]
    exact h2⟩
/-- .. of the heap alone -/
theorem Ext.own {B H : Hp} {p : Addr} {o : HO} (s : Same B H) (h : H p = none) : Ext B H B (upd H p o) :=
  ⟨new_same h, Same.refl _, s.trans (new_same h), fun _ _ h => h⟩

/-! ### relations -/
abbrev Rel := Hp → V → Prop
class Mo (R : Rel) : Prop where
  mo : ∀ {B B' : Hp} {v : V}, Same B B' → R B v → R B' v
def dat (K : PySem.W.Frag) (d : PyData) : Rel := fun B v => Dp K B v d
instance {K : PySem.W.Frag} {d : PyData} : Mo (dat K d) := ⟨fun s h => dpMono s d _ h⟩
def AllR : List Rel → Hp → List V → Prop
  | [], _, vs => vs = []
  | R :: Rs, B, vs => ∃ v r, vs = v :: r ∧ R B v ∧ AllR Rs B r
class MoA (Rs : List Rel) : Prop where
  mo : ∀ {B B' : Hp} {vs : List V}, Same B B' → AllR Rs B vs → AllR Rs B' vs
instance : MoA [] := ⟨fun _ h => h⟩
instance {R : Rel} {Rs : List Rel} [m : Mo R] [t : MoA Rs] : MoA (R :: Rs) := ⟨fun s ⟨v, r, e, h, g⟩ => ⟨v, r, e, m.mo s h, t.mo s g⟩⟩
theorem moA_of {Rs : List Rel} (h : ∀ R ∈ Rs, Mo R) : MoA Rs := by
  induction Rs with
  | nil => exact inferInstance
  | cons R Rs ih =>
    have := h R List.mem_cons_self
    have := ih fun R hR => h R (List.mem_cons_of_mem _ hR)
    exact inferInstance
instance {K : PySem.W.Frag} {ds : List PyData} : MoA (ds.map (dat K)) := moA_of fun R h => by
  obtain ⟨d, _, rfl⟩ := List.mem_map.mp h
  exact inferInstance
theorem allR_dp {K : PySem.W.Frag} {B : Hp} : ∀ {ds : List PyData} {vs : List V}, AllR (ds.map (dat K)) B vs → DpAll K B vs ds
  | [], _, h => by
    have h : _ = [] := h
    subst h
    exact .nil
  | d :: ds, _, h => by
    obtain ⟨v, r, rfl, h1, h2⟩ := h
    exact .cons h1 (allR_dp h2)
theorem dp_allR {K : PySem.W.Frag} {B : Hp} : ∀ {ds : List PyData} {vs : List V}, DpAll K B vs ds → AllR (ds.map (dat K)) B vs
  | _, _, .nil => rfl
  | _, _, .cons h t => ⟨_, _, rfl, h, dp_allR t⟩
theorem allR_len {B : Hp} : ∀ {Rs : List Rel} {vs : List V}, AllR Rs B vs → vs.length = Rs.length
  | [], _, h => by
    have h : _ = [] := h
    subst h
    rfl
  | R :: Rs, _, h => by
    obtain ⟨v, r, rfl, _, h2⟩ := h
    simp [allR_len h2]
theorem allR_at {B : Hp} : ∀ {Rs : List Rel} {vs : List V} {i : Nat} {v : V}, AllR Rs B vs → vs[i]? = some v → ∃ R, Rs[i]? = some R ∧ R B v
  | [], _, _, _, h, z => by
    have h : _ = [] := h
    subst h
    cases z
  | R :: Rs, _, 0, _, h, z => by
    obtain ⟨v, r, rfl, h1, _⟩ := h
    cases z
    exact ⟨R, rfl, h1⟩
  | R :: Rs, _, i + 1, _, h, z => by
    obtain ⟨v, r, rfl, _, h2⟩ := h
    exact allR_at (i := i) h2 z
theorem allR_of {B : Hp} : ∀ {Rs : List Rel} {vs : List V} {i : Nat} {R : Rel}, AllR Rs B vs → Rs[i]? = some R → ∃ v, vs[i]? = some v ∧ R B v
  | R :: Rs, _, 0, _, h, z => by
    obtain ⟨v, r, rfl, h1, _⟩ := h
    cases z
    exact ⟨v, rfl, h1⟩
  | R :: Rs, _, i + 1, _, h, z => by
    obtain ⟨v, r, rfl, _, h2⟩ := h
    exact allR_of (i := i) h2 z
theorem allR_app {B : Hp} : ∀ {Rs Ss : List Rel} {vs ws : List V}, AllR Rs B vs → AllR Ss B ws → AllR (Rs ++ Ss) B (vs ++ ws)
  | [], _, _, _, h, g => by
    have h : _ = [] := h
    subst h
    exact g
  | R :: Rs, _, _, _, h, g => by
    obtain ⟨v, r, rfl, h1, h2⟩ := h
    exact ⟨v, r ++ _, rfl, h1, allR_app h2 g⟩
theorem allR_snoc {B : Hp} {R : Rel} {Rs : List Rel} {vs : List V} {v : V} (h : AllR Rs B vs) (g : R B v) : AllR (Rs ++ [R]) B (vs ++ [v]) := allR_app h ⟨v, [], rfl, g, rfl⟩
/-- a list, a tuple of such -/
def lstR (K : PySem.W.Frag) (Rs : List Rel) : Rel := fun B v => ∃ a xs, v = .ref a ∧ SqL K B a xs ∧ AllR Rs B xs
def tupR (K : PySem.W.Frag) (Rs : List Rel) : Rel := fun B v => ∃ a xs, v = .ref a ∧ SqT K B a xs ∧ AllR Rs B xs
instance {K : PySem.W.Frag} {Rs : List Rel} [m : MoA Rs] : Mo (lstR K Rs) := ⟨fun s ⟨a, xs, e, h, g⟩ => ⟨a, xs, e, s.seq h, m.mo s g⟩⟩
instance {K : PySem.W.Frag} {Rs : List Rel} [m : MoA Rs] : Mo (tupR K Rs) := ⟨fun s ⟨a, xs, e, h, g⟩ => ⟨a, xs, e, seqT s h, m.mo s g⟩⟩
theorem lstR_dat {K : PySem.W.Frag} {ds : List PyData} {B : Hp} {v : V} (h : lstR K (ds.map (dat K)) B v) : dat K (.list ds) B v := by
  obtain ⟨a, xs, rfl, h, g⟩ := h
  exact .lst h (allR_dp g)
theorem tupR_dat {K : PySem.W.Frag} {ds : List PyData} {B : Hp} {v : V} (h : tupR K (ds.map (dat K)) B v) : dat K (.tuple ds) B v := by
  obtain ⟨a, xs, rfl, h, g⟩ := h
  exact .tup h (allR_dp g)
theorem dat_lstR {K : PySem.W.Frag} {ds : List PyData} {B : Hp} {v : V} (h : dat K (.list ds) B v) : lstR K (ds.map (dat K)) B v := by
  cases h with
  | lst h1 h2 => exact ⟨_, _, rfl, h1, dp_allR h2⟩
theorem dat_tupR {K : PySem.W.Frag} {ds : List PyData} {B : Hp} {v : V} (h : dat K (.tuple ds) B v) : tupR K (ds.map (dat K)) B v := by
  cases h with
  | tup h1 h2 => exact ⟨_, _, rfl, h1, dp_allR h2⟩
theorem dat_int {K : PySem.W.Frag} {i : Int} {B : Hp} {v : V} (h : dat K (.int i) B v) : v = .int i := by cases h; rfl
theorem dat_str {K : PySem.W.Frag} {i : Str} {B : Hp} {v : V} (h : dat K (.str i) B v) : v = .str i := by cases h; rfl
theorem dat_bl {K : PySem.W.Frag} {i : Bool} {B : Hp} {v : V} (h : dat K (.bool i) B v) : v = .bl i := by cases h; rfl

/-! ### what evaluates to what -/
def De (te : TE) (σ : L2.St) (B : Hp) (R : Rel) : Prop := ∀ B1 H, Same B B1 → Same B1 H → ∀ Q : VK, (∀ v B' H', Ext B1 H B' H' → R B' v → Q v H') → te σ H Q
def Da (ta : TA) (σ : L2.St) (B : Hp) (Rs : List Rel) : Prop := ∀ B1 H, Same B B1 → Same B1 H → ∀ Q : List V → Hp → Prop, (∀ vs B' H', Ext B1 H B' H' → AllR Rs B' vs → Q vs H') → ta σ H Q
def Dt (tt : TT) (σ : L2.St) (B : Hp) (b : Bool) : Prop := ∀ B1 H, Same B B1 → Same B1 H → ∀ Q : Bool → Hp → Prop, (∀ B' H', Ext B1 H B' H' → Q b H') → tt σ H Q
def Do (to : TO) (σ : L2.St) (B : Hp) (o : Option Int) : Prop := ∀ B1 H, Same B B1 → Same B1 H → ∀ Q : Option Int → Hp → Prop, (∀ B' H', Ext B1 H B' H' → Q o H') → to σ H Q
/-- operations on values -/
def Rv (r : R2) (B : Hp) (R S T : Rel) : Prop := ∀ x y B1 H, Same B B1 → Same B1 H → R B1 x → S B1 y → ∀ Q : VK, (∀ v B' H', Ext B1 H B' H' → T B' v → Q v H') → r x y H Q
def Ru (r : V → Hp → VK → Prop) (B : Hp) (R T : Rel) : Prop := ∀ x B1 H, Same B B1 → Same B1 H → R B1 x → ∀ Q : VK, (∀ v B' H', Ext B1 H B' H' → T B' v → Q v H') → r x H Q
def Rc (r : List V → Hp → VK → Prop) (B : Hp) (Rs : List Rel) (T : Rel) : Prop := ∀ vs B1 H, Same B B1 → Same B1 H → AllR Rs B1 vs → ∀ Q : VK, (∀ v B' H', Ext B1 H B' H' → T B' v → Q v H') → r vs H Q

section
variable {K : PySem.W.Frag} {σ : L2.St} {B B' : Hp} {ta tb te : TE} {tt tu : TT} {R S T U : Rel} {Rs : List Rel} {x v : V}
theorem De.mono (s : Same B B') (h : De te σ B R) : De te σ B' R := fun B1 H s1 s2 => h B1 H (s.trans s1) s2
theorem Da.mono {ta : TA} (s : Same B B') (h : Da ta σ B Rs) : Da ta σ B' Rs := fun B1 H s1 s2 => h B1 H (s.trans s1) s2
theorem Dt.mono {b : Bool} (s : Same B B') (h : Dt tt σ B b) : Dt tt σ B' b := fun B1 H s1 s2 => h B1 H (s.trans s1) s2
theorem De.conv (h : De te σ B R) (f : ∀ B v, R B v → S B v) : De te σ B S := fun B1 H s1 s2 Q q => h B1 H s1 s2 Q fun v B2 H2 e hv => q v B2 H2 e (f _ _ hv)
theorem De.eq {d e : PyData} (h : De te σ B (dat K d)) (z : d = e) : De te σ B (dat K e) := z ▸ h
theorem Dt.eq {b c : Bool} (h : Dt tt σ B b) (z : b = c) : Dt tt σ B c := z ▸ h
theorem De.var {i : Nat} [m : Mo R] (hR : R B v) (h : σ[i]? = some (some v)) : De (tVar i) σ B R := fun B1 H s1 s2 Q q => ⟨v, h, q v B1 H (.refl s2) (m.mo s1 hR)⟩
theorem De.cst (h : ∀ B, R B v) : De (tC v) σ B R := fun B1 H _ s2 Q q => q v B1 H (.refl s2) (h _)
theorem De.int {n : Int} : De (tC (.int n)) σ B (dat K (.int n)) := .cst fun _ => .int n
theorem De.str {z : Str} : De (tC (.str z)) σ B (dat K (.str z)) := .cst fun _ => .str z
theorem De.bl {b : Bool} : De (tC (.bl b)) σ B (dat K (.bool b)) := .cst fun _ => .bl b
theorem De.non : De (tC .non) σ B (dat K .none) := .cst fun _ => .non
theorem Da.nil : Da tNil σ B [] := fun B1 H _ s2 Q q => q [] B1 H (.refl s2) rfl
theorem Da.cons {tr : TA} [m : Mo R] (h : De ta σ B R) (t : Da tr σ B Rs) : Da (tCons ta tr) σ B (R :: Rs) := fun B1 H s1 s2 Q q =>
  h B1 H s1 s2 _ fun v B2 H2 e hv => t B2 H2 (s1.trans e.bb) e.bh _ fun vs B3 H3 e2 hvs => q _ B3 H3 (e.trans e2) ⟨v, vs, rfl, m.mo e2.bb hv, hvs⟩
theorem De.lst {ta : TA} [m : MoA Rs] (h : Da ta σ B Rs) (hz : Rs.length ≤ sizeLine) : De (tLst ta) σ B (lstR K Rs) := fun B1 H s1 s2 Q q =>
  h B1 H s1 s2 _ fun vs B2 H2 e hvs => ⟨by rw [allR_len hvs]; exact hz, fun p hp => q _ (upd B2 p (.lst vs)) _ (e.trans (Ext.new e.bh hp)) ⟨p, vs, rfl, SqL.of upd_same, m.mo (new_same (e.bh.free hp)) hvs⟩⟩
theorem De.tup {ta : TA} [m : MoA Rs] (h : Da ta σ B Rs) (hz : Rs.length ≤ sizeLine) : De (tTup ta) σ B (tupR K Rs) := fun B1 H s1 s2 Q q =>
  h B1 H s1 s2 _ fun vs B2 H2 e hvs => ⟨by rw [allR_len hvs]; exact hz, fun p hp => q _ (upd B2 p (.tup vs)) _ (e.trans (Ext.new e.bh hp)) ⟨p, vs, rfl, SqT.of upd_same, m.mo (new_same (e.bh.free hp)) hvs⟩⟩
theorem De.op {r : R2} [m : Mo R] (ha : De ta σ B R) (hb : De tb σ B S) (hr : Rv r B R S T) : De (tOp r ta tb) σ B T := fun B1 H s1 s2 Q q =>
  ha B1 H s1 s2 _ fun x B2 H2 e hx => hb B2 H2 (s1.trans e.bb) e.bh _ fun y B3 H3 e2 hy => hr x y B3 H3 ((s1.trans e.bb).trans e2.bb) e2.bh (m.mo e2.bb hx) hy Q fun v B4 H4 e3 hv => q v B4 H4 ((e.trans e2).trans e3) hv
theorem De.un {r : V → Hp → VK → Prop} (ha : De ta σ B R) (hr : Ru r B R T) : De (tUn r ta) σ B T := fun B1 H s1 s2 Q q =>
  ha B1 H s1 s2 _ fun x B2 H2 e hx => hr x B2 H2 (s1.trans e.bb) e.bh hx Q fun v B4 H4 e3 hv => q v B4 H4 (e.trans e3) hv
theorem De.cb {r : List V → Hp → VK → Prop} {ta : TA} (ha : Da ta σ B Rs) (hr : Rc r B Rs T) : De (tCB r ta) σ B T := fun B1 H s1 s2 Q q =>
  ha B1 H s1 s2 _ fun x B2 H2 e hx => hr x B2 H2 (s1.trans e.bb) e.bh hx Q fun v B4 H4 e3 hv => q v B4 H4 (e.trans e3) hv
/-- what a def is worth, that changes nothing that was -/
def Pf {α : Type} (args : α → List Rel) (pre : α → Prop) (res : α → Rel) : Sp := fun vs H Q _ => ∃ (B : Hp) (a : α), Same B H ∧ AllR (args a) B vs ∧ pre a ∧ ∀ v B' H', Ext B H B' H' → res a B' v → Q v H'
theorem De.call {α : Type} {args : α → List Rel} {pre : α → Prop} {res : α → Rel} {E : XK} {ta : TA} (a : α) (ha : Da ta σ B (args a)) (hp : pre a) : De (tCall (Pf args pre res) [] E ta) σ B (res a) := fun B1 H s1 s2 Q q =>
  ha B1 H s1 s2 _ fun x B2 H2 e hx => by
    show Pf args pre res (x ++ []) H2 Q E
    rw [List.append_nil]
    exact ⟨B2, a, e.bh, hx, hp, fun v B4 H4 e3 hv => q v B4 H4 (e.trans e3) hv⟩
/-- .. by names: the values as they are written, the parameters' places among them -/
theorem De.callK {α : Type} {args : α → List Rel} {pre : α → Prop} {res : α → Rel} {E : XK} {tk : TA} {ix : List Nat} {n : Nat} (a : α) (ha : Da tk σ B Rs) (hn : Rs.length = n) (hx : ∀ B vs, AllR Rs B vs → AllR (args a) B (kwV ix vs)) (hp : pre a) : De (tCalK (Pf args pre res) ix n E tk) σ B (res a) := fun B1 H s1 s2 Q q =>
  ha B1 H s1 s2 _ fun x B2 H2 e hv => ⟨by rw [allR_len hv]; exact hn, B2, a, e.bh, hx _ _ hv, hp, fun v B4 H4 e3 hv => q v B4 H4 (e.trans e3) hv⟩
theorem Do.none : Do tNoPart σ B none := fun B1 H _ s2 Q q => q B1 H (.refl s2)
theorem Do.some {i : Int} (h : De te σ B (dat K (.int i))) : Do (tPart te) σ B (some i) := fun B1 H s1 s2 Q q =>
  h B1 H s1 s2 _ fun v B2 H2 e hv => ⟨i, dat_int hv, q B2 H2 e⟩
theorem De.sl {r : V → Option Int → Option Int → Hp → VK → Prop} {tl th : TO} {lo hi : Option Int} [m : Mo R] (h : De te σ B R) (h1 : Do tl σ B lo) (h2 : Do th σ B hi)
    (hr : ∀ x B1 H, Same B B1 → Same B1 H → R B1 x → ∀ Q : VK, (∀ v B' H', Ext B1 H B' H' → T B' v → Q v H') → r x lo hi H Q) : De (tSl r te tl th) σ B T := fun B1 H s1 s2 Q q =>
  h B1 H s1 s2 _ fun x B2 H2 e hx => h1 B2 H2 (s1.trans e.bb) e.bh _ fun B3 H3 e2 => h2 B3 H3 ((s1.trans e.bb).trans e2.bb) e2.bh _ fun B4 H4 e3 =>
    hr x B4 H4 (((s1.trans e.bb).trans e2.bb).trans e3.bb) e3.bh (m.mo (e2.bb.trans e3.bb) hx) Q fun v B5 H5 e4 hv => q v B5 H5 (((e.trans e2).trans e3).trans e4) hv

/-! ### tests, choices -/
theorem Dt.test {b : Bool} (h : De te σ B (dat K (.bool b))) : Dt (tTest te) σ B b := fun B1 H s1 s2 Q q => h B1 H s1 s2 _ fun v B2 H2 e hv => ⟨b, dat_bl hv, q B2 H2 e⟩
theorem Dt.tB {b : Bool} (h : De te σ B (dat K (.bool b))) : Dt (tB te) σ B b := fun B1 H s1 s2 Q q => h B1 H s1 s2 _ fun v B2 H2 e hv => ⟨b, dat_bl hv, q B2 H2 e⟩
theorem Dt.and {a b : Bool} (h1 : Dt tt σ B a) (h2 : a = true → Dt tu σ B b) : Dt (tAnd tt tu) σ B (a && b) := fun B1 H s1 s2 Q q => h1 B1 H s1 s2 _ fun B2 H2 e => by
  cases a with
  | true => exact h2 rfl B2 H2 (s1.trans e.bb) e.bh Q fun B3 H3 e3 => q B3 H3 (e.trans e3)
  | false => exact q B2 H2 e
theorem Dt.or {a b : Bool} (h1 : Dt tt σ B a) (h2 : a = false → Dt tu σ B b) : Dt (tOr tt tu) σ B (a || b) := fun B1 H s1 s2 Q q => h1 B1 H s1 s2 _ fun B2 H2 e => by
  cases a with
  | true => exact q B2 H2 e
  | false => exact h2 rfl B2 H2 (s1.trans e.bb) e.bh Q fun B3 H3 e3 => q B3 H3 (e.trans e3)
theorem Dt.not {a : Bool} (h1 : Dt tt σ B a) : Dt (tNot tt) σ B (!a) := fun B1 H s1 s2 Q q => h1 B1 H s1 s2 _ q
theorem Dt.yes : Dt tYes σ B true := fun B1 H _ s2 Q q => q B1 H (.refl s2)
theorem De.ite {b : Bool} (h : Dt tt σ B b) (h1 : b = true → De ta σ B R) (h2 : b = false → De tb σ B R) : De (tIf tt ta tb) σ B R := fun B1 H s1 s2 Q q => h B1 H s1 s2 _ fun B2 H2 e => by
  cases b with
  | true => exact h1 rfl B2 H2 (s1.trans e.bb) e.bh Q fun v B3 H3 e3 => q v B3 H3 (e.trans e3)
  | false => exact h2 rfl B2 H2 (s1.trans e.bb) e.bh Q fun v B3 H3 e3 => q v B3 H3 (e.trans e3)
theorem De.iteD {b : Bool} {d e : PyData} (h : Dt tt σ B b) (h1 : b = true → De ta σ B (dat K d)) (h2 : b = false → De tb σ B (dat K e)) : De (tIf tt ta tb) σ B (dat K (if b = true then d else e)) :=
  .ite h (fun z => by rw [if_pos z]; exact h1 z) (fun z => by rw [if_neg (by rw [z]; decide)]; exact h2 z)
theorem De.andV {a b : Bool} (h1 : De ta σ B (dat K (.bool a))) (h2 : a = true → De tb σ B (dat K (.bool b))) : De (tAndV ta tb) σ B (dat K (.bool (a && b))) := fun B1 H s1 s2 Q q => h1 B1 H s1 s2 _ fun v B2 H2 e hv => ⟨a, dat_bl hv, by
  cases a with
  | true => exact h2 rfl B2 H2 (s1.trans e.bb) e.bh Q fun v B3 H3 e3 => q v B3 H3 (e.trans e3)
  | false => exact q _ B2 H2 e (.bl false)⟩
theorem De.orV {a b : Bool} (h1 : De ta σ B (dat K (.bool a))) (h2 : a = false → De tb σ B (dat K (.bool b))) : De (tOrV ta tb) σ B (dat K (.bool (a || b))) := fun B1 H s1 s2 Q q => h1 B1 H s1 s2 _ fun v B2 H2 e hv => ⟨a, dat_bl hv, by
  cases a with
  | true => exact q _ B2 H2 e (.bl true)
  | false => exact h2 rfl B2 H2 (s1.trans e.bb) e.bh Q fun v B3 H3 e3 => q v B3 H3 (e.trans e3)⟩
theorem De.notV {a : Bool} (h1 : De ta σ B (dat K (.bool a))) : De (tNotV ta) σ B (dat K (.bool (!a))) := fun B1 H s1 s2 Q q => h1 B1 H s1 s2 _ fun v B2 H2 e hv => ⟨a, dat_bl hv, q _ B2 H2 e (.bl _)⟩

/-! ### operations -/
theorem Rv.I0 {f : Int → Int → Int} {i j : Int} : Rv (rI0 fun i j => V.int (f i j)) B (dat K (.int i)) (dat K (.int j)) (dat K (.int (f i j))) := fun x y B1 H _ s2 hx hy Q q =>
  ⟨i, j, dat_int hx, dat_int hy, q _ B1 H (.refl s2) (.int _)⟩
theorem Rv.I0b {f : Int → Int → Bool} {i j : Int} : Rv (rI0 fun i j => V.bl (f i j)) B (dat K (.int i)) (dat K (.int j)) (dat K (.bool (f i j))) := fun x y B1 H _ s2 hx hy Q q =>
  ⟨i, j, dat_int hx, dat_int hy, q _ B1 H (.refl s2) (.bl _)⟩
theorem Rv.I {C : Int → Int → Prop} {f : Int → Int → Int} {i j : Int} (hc : C i j) : Rv (rI C fun i j => V.int (f i j)) B (dat K (.int i)) (dat K (.int j)) (dat K (.int (f i j))) := fun x y B1 H _ s2 hx hy Q q =>
  ⟨i, j, dat_int hx, dat_int hy, hc, q _ B1 H (.refl s2) (.int _)⟩
theorem Rv.addS {x y : Str} (hz : x.length + y.length ≤ sizeLine) : Rv (fun x y H Q => ∃ i j, x = .str i ∧ y = .str j ∧ i.length + j.length ≤ sizeLine ∧ Q (.str (i ++ j)) H) B (dat K (.str x)) (dat K (.str y)) (dat K (.str (x ++ y))) := fun _ _ B1 H _ s2 hx hy Q q =>
  ⟨x, y, dat_str hx, dat_str hy, hz, q _ B1 H (.refl s2) (.str _)⟩
theorem Rv.eqD {d e : PyData} (hd : SeqAt.shaped d = true) (he : SeqAt.shaped e = true) : Rv (rEqD K) B (dat K d) (dat K e) (dat K (.bool (PyData.eqv d e))) := fun x y B1 H _ s2 hx hy Q q =>
  ⟨d, e, dpMono s2 _ _ hx, dpMono s2 _ _ hy, hd, he, q _ B1 H (.refl s2) (.bl _)⟩
theorem Rv.neD {d e : PyData} (hd : SeqAt.shaped d = true) (he : SeqAt.shaped e = true) : Rv (rNeD K) B (dat K d) (dat K e) (dat K (.bool (!PyData.eqv d e))) := fun x y B1 H _ s2 hx hy Q q =>
  ⟨d, e, dpMono s2 _ _ hx, dpMono s2 _ _ hy, hd, he, q _ B1 H (.refl s2) (.bl _)⟩
theorem Rv.inL {d : PyData} {ds : List PyData} (hd : SeqAt.shaped d = true) (he : SeqAt.shaped (.list ds) = true) : Rv (rInD K) B (dat K d) (dat K (.list ds)) (dat K (.bool (ds.any fun z => PyData.eqv z d))) := fun x y B1 H _ s2 hx hy Q q =>
  ⟨d, ds, dpMono s2 _ _ hx, dpMono s2 _ _ hy, hd, he, q _ B1 H (.refl s2) (.bl _)⟩
theorem Rv.notInL {d : PyData} {ds : List PyData} (hd : SeqAt.shaped d = true) (he : SeqAt.shaped (.list ds) = true) : Rv (rNotInD K) B (dat K d) (dat K (.list ds)) (dat K (.bool (!ds.any fun z => PyData.eqv z d))) := fun x y B1 H _ s2 hx hy Q q =>
  ⟨d, ds, dpMono s2 _ _ hx, dpMono s2 _ _ hy, hd, he, q _ B1 H (.refl s2) (.bl _)⟩
theorem allR_atI {xs : List V} {i : Int} (h : AllR Rs B xs) (z : atI Rs i = some R) : ∃ v, atI xs i = some v ∧ R B v := by
  unfold atI at *
  rw [allR_len h]
  cases e : ixN Rs.length i with
  | none =>
    rw [e] at z
    cases z
  | some j =>
    rw [e] at z
    exact allR_of h z
theorem Rv.ixL {i : Int} (z : atI Rs i = some R) : Rv (rIxL K) B (lstR K Rs) (dat K (.int i)) R := fun x y B1 H _ s2 hx hy Q q => by
  obtain ⟨a, xs, rfl, h, g⟩ := hx
  obtain ⟨v, hv, hR⟩ := allR_atI g z
  exact ⟨a, xs, i, v, rfl, dat_int hy, s2.seq h, hv, q v B1 H (.refl s2) hR⟩
theorem Rv.ixT {i : Int} (z : atI Rs i = some R) : Rv (rIxT K) B (tupR K Rs) (dat K (.int i)) R := fun x y B1 H _ s2 hx hy Q q => by
  obtain ⟨a, xs, rfl, h, g⟩ := hx
  obtain ⟨v, hv, hR⟩ := allR_atI g z
  exact ⟨a, xs, i, v, rfl, dat_int hy, seqT s2 h, hv, q v B1 H (.refl s2) hR⟩
theorem atI_map {α β : Type} (f : α → β) {xs : List α} {i : Int} {x : α} (h : atI xs i = some x) : atI (xs.map f) i = some (f x) := by
  unfold atI at *
  rw [List.length_map]
  cases e : ixN xs.length i with
  | none =>
    rw [e] at h
    cases h
  | some j =>
    rw [e] at h
    have h : xs[j]? = some x := h
    show (xs.map f)[j]? = some (f x)
    rw [List.getElem?_map, h]
    rfl
theorem Rv.ixLD {ds : List PyData} {d : PyData} {i : Int} (z : atI ds i = some d) : Rv (rIxL K) B (dat K (.list ds)) (dat K (.int i)) (dat K d) := fun x y B1 H s1 s2 hx hy => Rv.ixL (K := K) (atI_map (dat K) z) x y B1 H s1 s2 (dat_lstR hx) hy
theorem Rv.ixTD {ds : List PyData} {d : PyData} {i : Int} (z : atI ds i = some d) : Rv (rIxT K) B (dat K (.tuple ds)) (dat K (.int i)) (dat K d) := fun x y B1 H s1 s2 hx hy => Rv.ixT (K := K) (atI_map (dat K) z) x y B1 H s1 s2 (dat_tupR hx) hy
/-- tuple + tuple -/
theorem Rv.catT {xs ys : List PyData} (hz : xs.length + ys.length ≤ sizeLine) : Rv (rCatA K) B (dat K (.tuple xs)) (dat K (.tuple ys)) (dat K (.tuple (xs ++ ys))) := fun x y B1 H _ s2 hx hy Q q => by
  have hx' := hx
  have hy' := hy
  obtain ⟨a, us, rfl, h, g⟩ := dat_tupR hx
  obtain ⟨b, ws, rfl, h', g'⟩ := dat_tupR hy
  have l1 := allR_len g
  have l2 := allR_len g'
  rw [List.length_map] at l1 l2
  refine ⟨a, b, us, ws, rfl, rfl, seqT s2 h, seqT s2 h', by omega, fun e => ?_, fun _ e => ?_, fun _ _ p hp => ?_⟩
  · have : xs = [] := List.eq_nil_of_length_eq_zero (by rw [← l1, e]; rfl)
    subst this
    exact q _ B1 H (.refl s2) hy'
  · have : ys = [] := List.eq_nil_of_length_eq_zero (by rw [← l2, e]; rfl)
    subst this
    rw [List.append_nil] at q
    exact q _ B1 H (.refl s2) hx'
  · refine q _ (upd B1 p (.tup (us ++ ws))) _ (Ext.new s2 hp) ?_
    have s := new_same (o := .tup (us ++ ws)) (s2.free hp)
    exact .tup (SqT.of upd_same) (dpMonoAll s _ _ (allR_dp (by rw [List.map_append]; exact allR_app g g')))
end
end Wv

set_option Elab.async false
set_option linter.all false
set_option maxRecDepth 100000
set_option maxHeartbeats 4000000
/-! Ws0: sorted(xs), xs a list of data that are alike, empty tuples among them too. -/
namespace PySem.W
open PySem PySem.Calls PyProof.Rows PySem.SeqAt
section
variable {prog : Program} {w : World} {A : Around} {E : Value → Shared → Prop} {s : Shared}
theorem oneLt_tup {f : Bool} {xs ys : List PyData} {a b : Value} {as bs : List Addr} {Q : Bool → Shared → Prop} (ra : Reads s.heap a (.tuple xs) as) (rb : Reads s.heap b (.tuple ys) bs) (h : alike (.tuple xs) (.tuple ys) = true)
    (hu : A.units + min (PyData.tuple xs).depth (PyData.tuple ys).depth < cLine) (hq : Q (dataLt (.tuple xs) (.tuple ys)) s) : wpAny (model prog w) A (oneLt' f a b) Q E s := by
  cases f with
  | false => exact oneLt_alike (fun z => nomatch z) ra rb h (fun z => nomatch z) hu hq
  | true =>
    have hal : alikeAll xs ys = true := by simpa [alike] using h
    cases ra with
    | @tuple l o vs n _ as₁ h1 h2 h3 h4 =>
      cases rb with
      | @tuple l' o' vs' n' _ bs₁ k1 k2 k3 k4 =>
        have n1 : vs.size = xs.length := by simpa using ReadsAll.length _ _ _ h4
        have n2 : vs'.size = ys.length := by simpa using ReadsAll.length _ _ _ k4
        rw [dataLt_tuple, ← firstLt_toks xs ys hal, ← n1, ← n2] at hq
        rw [oneLt'_eq]
        simp only [if_true]
        refine wpAny_bind (wpAny_cRoomFor (room_here hu) ?_)
        obtain ⟨cls, dd, data, sl⟩ := o
        obtain ⟨cls2, dd2, data2, sl2⟩ := o'
        simp only at h2 h3 k2 k3
        subst h2 h3 k2 k3
        refine wpAny_bind (wpAny_callSpecialIfBound?_slot (T := "tuple") ⟨_, h1, rfl⟩ F.slot_tuple_lt (call_meets F.slot_tuple_lt ⟨_, h1, rfl⟩ F.entry_tuple_lt (F.args_tuple_lt_2 _ _)
          (tuple_ltAt l l' vs vs' n n' dd dd2 sl sl2 (pairEq xs ys) (fun j => dataLt (xs.getD j .none) (ys.getD j .none))) ⟨h1, k1, fun j j1 j2 => ?_, fun j j1 j2 hj => ?_, ?_⟩))
        · have := eqAt_alikeAll xs ys A.in1 s vs.toList vs'.toList _ _ h4 k4 hal (room_in hu) j (by simpa using j1) (by simpa using j2)
          simpa using this
        · have := rcLt_alikeAll xs ys A.in1 s vs.toList vs'.toList _ _ h4 k4 hal (room_in hu) j (by simpa using j1) (by simpa using j2) hj
          simpa using this
        · exact wpAny_truthy_bool hq
def full : PyData → Bool
  | .tuple (_ :: _) => true
  | _ => false
/-- the first items of tuples, empty ones among them -/
theorem firsts_mix : ∀ (vs : List Value) (ds : List PyData) {Q : List (Option Value) → Shared → Prop}, EachIs (fun v d => ∃ as, Reads s.heap v d as) vs ds → (∀ d, d ∈ ds → ∃ xs, d = .tuple xs) →
    (∀ fs : List (Option Value), fs.map (·.isSome) = ds.map full → Q fs s) → wpAny (model prog w) A (vs.mapM firstOfTuple') Q E s
  | _, _, _, .nil, _, h => by
    rw [List.mapM_nil]
    exact wpAny_pure (h [] rfl)
  | _, _, Q, .cons (b := d) (as := vs) (bs := ds) ⟨as, r⟩ t, ht, h => by
    obtain ⟨xs, rfl⟩ := ht d List.mem_cons_self
    cases r with
    | @tuple a o us n _ _ ho hc hd hr =>
      rw [List.mapM_cons]
      refine wpAny_bind ?_
      rw [kas_first_eq]
      refine wpAny_bind (Looks.here (show Looks (model prog w) s.heap (typeOf (.ref a)) o.cls from (Looks.ld ho).andThen .now) ?_)
      rw [hc, if_neg (by first | decide | simp)]
      refine wpAny_bind (listItems_at ho hd (wpAny_pure ?_))
      have e : (us[0]?).isSome = full (.tuple xs) := by
        have n1 : us.size = xs.length := by simpa using ReadsAll.length _ _ _ hr
        cases xs with
        | nil =>
          have : us[0]? = none := by
            rw [Array.getElem?_eq_none_iff, n1]
            exact Nat.le_refl _
          rw [this]
          rfl
        | cons x r =>
          have : 0 < us.size := by rw [n1]; simp
          rw [Array.getElem?_eq_getElem this]
          rfl
      exact wpAny_bind (firsts_mix vs ds (Q := fun bs s' => wpAny (model prog w) A (pure (us[0]? :: bs)) Q E s') t (fun d hd => ht d (List.mem_cons_of_mem _ hd)) fun fs hf => wpAny_pure (h _ (by rw [List.map_cons, List.map_cons, hf, e])))
/-- tuples that are alike can be sorted -/
theorem SortsAt.tups {vs : List Value} {ds : List PyData} (e : EachIs (fun v d => ∃ as, Reads s.heap v d as) vs ds) (hal : AllAlike ds) (ht : ∀ d, d ∈ ds → ∃ xs, d = .tuple xs) (hu : ∀ d, d ∈ ds → A.units + d.depth < cLine) : SortsAt prog w A s (dataKind s.heap ds) vs := by
  by_cases hf : ∀ d, d ∈ ds → full d = true
  · refine SortsAt.data e hal (.inl fun d hd => ?_) hu
    obtain ⟨xs, rfl⟩ := ht d hd
    have := hf _ hd
    cases xs with
    | nil => cases this
    | cons x r => exact ⟨x, r, rfl⟩
  have lt : ∀ kd : SortKind, (∀ x y, keyLt' kd x y = oneLt' true x y) ∨ (∀ x y, keyLt' kd x y = oneLt' false x y) → H.LtAt prog w A s (dataKind s.heap ds) kd := by
    intro kd hk E x y a b Q ha hb hq
    obtain ⟨d, as, hd, ra, rfl⟩ := dataKind_inv ha
    obtain ⟨d', as', hd', rb, rfl⟩ := dataKind_inv hb
    obtain ⟨xs, rfl⟩ := ht d hd
    obtain ⟨ys, rfl⟩ := ht d' hd'
    have room : A.units + min (PyData.tuple xs).depth (PyData.tuple ys).depth < cLine := Nat.lt_of_le_of_lt (Nat.add_le_add_left (Nat.min_le_left _ _) _) (hu _ hd)
    rcases hk with hk | hk
    · rw [hk]
      exact oneLt_tup ra rb (hal _ hd _ hd') room hq
    · rw [hk]
      exact oneLt_tup ra rb (hal _ hd _ hd') room hq
  have hkeys : ∀ v, v ∈ vs → ∃ a, (dataKind s.heap ds).keyOf v = some a := fun v hv => by
    obtain ⟨d, hd, as, r⟩ := e.left v hv
    exact ⟨_, dataKind_some hal hd r⟩
  cases ds with
  | nil => exact absurd (fun d hd => nomatch hd) hf
  | cons d₀ ds₀ =>
    have many : ∀ fs : List (Option Value), fs.map (·.isSome) = (d₀ :: ds₀).map full → fs.toArray.all (·.isSome) = false := by
      intro fs hfs
      rw [Bool.eq_false_iff]
      intro q
      refine hf fun d hd => ?_
      rw [List.all_toArray, List.all_eq_true] at q
      have m : full d ∈ fs.map (·.isSome) := by
        rw [hfs]
        exact List.mem_map.mpr ⟨d, hd, rfl⟩
      obtain ⟨o, ho, eo⟩ := List.mem_map.mp m
      rw [← eo]
      exact q o ho
    have first : ∀ fs : List (Option Value), fs.map (·.isSome) = (d₀ :: ds₀).map full → ((fs.toArray[0]?).bind id).isSome = full d₀ := by
      intro fs hfs
      cases fs with
      | nil => cases hfs
      | cons o r =>
        rw [List.map_cons, List.map_cons] at hfs
        have := (List.cons.inj hfs).1
        simpa using this
    cases hd0 : full d₀ with
    | true =>
      refine ⟨hkeys, general', lt _ (.inr fun _ _ => rfl), fun _ E Q hq => ?_⟩
      rw [keyKind'_eq, List.mapM_toArray, map_eq_pure_bind]
      refine wpAny_bind (wpAny_bind (firsts_mix vs _ e ht fun fs hfs => wpAny_pure ?_))
      rw [if_neg (by rw [many fs hfs]; decide), if_pos (by rw [first fs hfs, hd0])]
      exact wpAny_pure hq
    | false =>
      refine ⟨hkeys, oneType', lt _ (.inl fun _ _ => rfl), fun _ E Q hq => ?_⟩
      rw [keyKind'_eq, List.mapM_toArray, map_eq_pure_bind]
      refine wpAny_bind (wpAny_bind (firsts_mix vs _ e ht fun fs hfs => wpAny_pure ?_))
      rw [if_neg (by rw [many fs hfs]; decide), if_neg (by rw [first fs hfs, hd0]; decide)]
      rw [oneTypeOnly'_eq, List.mapM_toArray, map_eq_pure_bind]
      have tys : ∀ v ∈ vs, ∀ Q' : Value → Shared → Prop, Q' (.type "tuple") s → wpAny (model prog w) A (typeOf v) Q' E s := fun v hv Q' hq' => by
        obtain ⟨d, hd, as, r⟩ := e.left v hv
        obtain ⟨xs, rfl⟩ := ht d hd
        exact (looks_reads r).here hq'
      refine wpAny_bind (wpAny_bind (wpAny_bind (kas_mapM (r := Value.type "tuple") _ (fun v hv Q' hq' => tys v hv Q' hq') (wpAny_pure ?_))))
      cases e with
      | cons h1 t =>
        rename_i v0 vr _
        have h0 : (List.map (fun _ => Value.type "tuple") (v0 :: vr)).toArray[0]? = some (Value.type "tuple") := by simp
        rw [h0]
        have h3 : ((List.map (fun _ => Value.type "tuple") (v0 :: vr)).toArray.all fun x => x == Value.type "tuple") = true := by
          simp only [List.all_toArray, List.all_map, List.all_eq_true]
          intro _ _
          exact beq_self_eq_true _
        dsimp only
        rw [if_pos h3]
        exact wpAny_pure (wpAny_pure hq)
/-- what can be sorted: tuples, or neither tuples nor None -/
def SortOk (ds : List PyData) : Prop := (∀ d, d ∈ ds → ∃ xs, d = .tuple xs) ∨ ∀ d, d ∈ ds → d ≠ .none ∧ ∀ xs, d ≠ .tuple xs
theorem SortsAt.ok {vs : List Value} {ds : List PyData} (e : EachIs (fun v d => ∃ as, Reads s.heap v d as) vs ds) (hal : AllAlike ds) (hk : SortOk ds) (hu : ∀ d, d ∈ ds → A.units + d.depth < cLine) : SortsAt prog w A s (dataKind s.heap ds) vs := by
  rcases hk with h | h
  · exact SortsAt.tups e hal h hu
  · exact SortsAt.data e hal (.inr h) hu
theorem sorted_ok {l : Addr} {β : Type} {vs : List Value} {bs : List β} {enc : β → PyData} {R : Value → β → Prop} {Q : Value → Shared → Prop} (hl : s.heap.IsList l vs.toArray) (e : EachIs R vs bs) (er : EachIs (fun v b => ∃ as, Reads s.heap v (enc b) as) vs bs)
    (hal : AllAlike (bs.map enc)) (hk : SortOk (bs.map enc)) (hL : bs.length ≤ sizeLine)
    (hu : ∀ b, b ∈ bs → A.units + 2 + (enc b).depth < cLine) (h : ∀ out, out.length = bs.length → EachIs R out (bs.mergeSort (dataLe false enc)) → Q (.ref (s.heap.objs.size + 1)) { s with heap := sortedAll s.heap vs (List.toArray out) }) :
    wpAny (model prog w) A (call (.builtin "sorted") [.ref l]) Q E s := by
  have er' : EachIs (fun v b => ∃ as, Reads (sortingHeap (copyHeap s.heap vs) (s.heap.objs.size + 1) vs) v (enc b) as) vs bs := er.mono fun _ _ ⟨as, r⟩ => ⟨as, PyProof.Rows.Reads.keeps (fun _ _ => sorting_copy_old) r⟩
  exact sorted_vals hl (SortsAt.ok (s := { s with heap := sortingHeap (copyHeap s.heap vs) (s.heap.objs.size + 1) vs }) (each_map (R := fun v d => ∃ as, Reads (sortingHeap (copyHeap s.heap vs) (s.heap.objs.size + 1) vs) v d as) enc er') hal hk (bound_map hu)) (by rw [e.length]; exact hL)
    (h _ (by rw [sortVals_length false rfl]; exact e.length) (sortVals_data false e er' hal))
end
end PySem.W
namespace Wb
open PySem PySem.Spec PyProof.Rows L2
/-- the order of data -/
def dle (x y : PyData) : Bool := PySem.W.dataLe false (fun d : PyData => d) x y
def sortD (ds : List PyData) : List PyData := ds.mergeSort dle
/-- the values in that order -/
def sortV (xs : List V) (ds : List PyData) : List V := ((xs.zip ds).mergeSort fun a b => dle a.2 b.2).map Prod.fst
/-- sorted(xs) of a list of data -/
def rSortedD (K : PySem.W.Frag) : List V → Hp → VK → Prop := fun vs H Q => ∃ (a : Addr) (xs : List V) (ds : List PyData), vs = [.ref a] ∧ SqL K H a xs ∧ DpAll K H xs ds ∧ PySem.W.AllAlike ds ∧ PySem.W.SortOk ds ∧ (∀ d ∈ ds, d.depth ≤ 60) ∧
  ∀ p, H p = none → Q (.ref p) (upd H p (.lst (sortV xs ds)))
theorem dpAll_pairs {K : PySem.W.Frag} {H : Hp} : ∀ {l : List (V × PyData)}, (∀ p ∈ l, Dp K H p.1 p.2) → DpAll K H (l.map Prod.fst) (l.map Prod.snd)
  | [], _ => .nil
  | p :: l, h => .cons (h p List.mem_cons_self) (dpAll_pairs fun q hq => h q (List.mem_cons_of_mem _ hq))
theorem pairs_dpAll {K : PySem.W.Frag} {H : Hp} : ∀ {xs : List V} {ds : List PyData}, DpAll K H xs ds → ∀ p ∈ xs.zip ds, Dp K H p.1 p.2
  | _, _, .nil => fun p h => nomatch h
  | _, _, .cons h t => fun p hp => by
    rcases List.mem_cons.mp hp with e | hp
    · rw [e]
      exact h
    · exact pairs_dpAll t p hp
theorem each_pairs {X : Cx} {pins : List (Addr × Obj)} {σ : L2.St} {H : Hp} {s : Shared} (I : Inv X pins σ H s) : ∀ {xs : List V} {its : List Value} {ds : List PyData}, Vals xs its → DpAll X.K H xs ds →
    PySem.W.EachIs (fun (v : Value) (b : V × PyData) => RelV b.1 v ∧ Dp X.K H b.1 b.2) its (xs.zip ds)
  | _, _, _, .nil, .nil => .nil
  | _, _, _, .cons r t, .cons h g => .cons ⟨r, h⟩ (each_pairs I t g)
theorem pairs_out {K : PySem.W.Frag} {H : Hp} : ∀ {out : List Value} {bs : List (V × PyData)}, PySem.W.EachIs (fun (v : Value) (b : V × PyData) => RelV b.1 v ∧ Dp K H b.1 b.2) out bs → Vals (bs.map Prod.fst) out ∧ DpAll K H (bs.map Prod.fst) (bs.map Prod.snd)
  | _, _, .nil => ⟨.nil, .nil⟩
  | _, _, .cons h t => by
    obtain ⟨a, b⟩ := pairs_out t
    exact ⟨.cons h.1 a, .cons h.2 b⟩
theorem zip_snd : ∀ {xs : List V} {ds : List PyData}, xs.length = ds.length → (xs.zip ds).map Prod.snd = ds
  | [], [], _ => rfl
  | x :: xs, d :: ds, h => by
    rw [List.zip_cons_cons, List.map_cons, zip_snd (by simpa using h)]
theorem dp_sort {K : PySem.W.Frag} {H : Hp} {xs : List V} {ds : List PyData} (h : DpAll K H xs ds) : DpAll K H (sortV xs ds) (sortD ds) := by
  have e : ((xs.zip ds).mergeSort fun a b => dle a.2 b.2).map Prod.snd = sortD ds := by
    unfold sortD
    rw [List.map_mergeSort (s := dle) (f := Prod.snd) (fun a _ b _ => rfl), zip_snd (dpAll_len h)]
  rw [← e]
  exact dpAll_pairs fun p hp => pairs_dpAll h p ((List.mergeSort_perm _ _).mem_iff.mp hp)
section
variable {X : Cx}
theorem cr_sortedD (hu : X.A.units + 64 < cLine) : CallR X (.builtin "sorted") (rSortedD X.K) := by
  intro pins s σ H vs us Q I r h
  obtain ⟨a, xs, ds, rfl, hs, hd, hal, hk, hdep, q⟩ := h
  obtain ⟨its, rv, hl, hz⟩ := I.list hs
  obtain ⟨u, rfl, ru⟩ := vals1 r
  obtain rfl : u = Value.ref a := ru
  have len : xs.length = ds.length := dpAll_len hd
  have em : (xs.zip ds).map Prod.snd = ds := zip_snd len
  have e := each_pairs I rv hd
  have er : PySem.W.EachIs (fun (v : Value) (b : V × PyData) => ∃ as, Reads s.heap v b.2 as) its (xs.zip ds) := e.mono fun v b h => Dp.reads I b.2 b.1 v h.2 h.1
  refine PySem.W.sorted_ok (enc := Prod.snd) hl.isList e er (by rw [em]; exact hal) (by rw [em]; exact hk) (by rw [List.length_zip]; omega) (fun b hb => ?_) fun out ho eo => ?_
  · have := hdep b.2 (List.of_mem_zip hb).2
    omega
  · obtain ⟨o1, o2⟩ := pairs_out eo
    obtain ⟨c, hc⟩ := PyProof.Rows.sortedAll_at s.heap its out.toArray
    have ln : (((xs.zip ds).mergeSort (PySem.W.dataLe false Prod.snd)).map Prod.fst).length ≤ sizeLine := by
      rw [List.length_map, List.length_mergeSort, List.length_zip]
      omega
    exact ⟨.ref (s.heap.objs.size + 1), upd H (s.heap.objs.size + 1) (.lst (((xs.zip ds).mergeSort (PySem.W.dataLe false Prod.snd)).map Prod.fst)), I.laid (t' := s.toks) (fun _ _ => PyProof.Rows.sortedAll_old) (Nat.le_succ _) ⟨ln, out, c, o1, hc⟩, rfl, q _ (I.hok.fresh (Nat.le_succ _))⟩
end
end Wb

set_option Elab.async false
set_option linter.all false
set_option maxRecDepth 100000
set_option maxHeartbeats 4000000
/-! Wv1: what is walked, loops, comprehensions, built-in functions, objects that never change. -/
namespace Wv
open PySem PySem.Spec PyProof.Rows L2 Wb

/-! ### more rules of the language -/
section
variable {X : Cx}
/-- list + list -/
def rCatS (K : PySem.W.Frag) : R2 := fun x y H Q => ∃ l b xs zs, x = .ref l ∧ y = .ref b ∧ SqL K H l xs ∧ SqL K H b zs ∧ xs.length + zs.length ≤ sizeLine ∧ ∀ p, H p = none → Q (.ref p) (upd H p (.lst (xs ++ zs)))
theorem op_catS : OpR X (binaryOp .Add) (rCatS X.K) := by
  intro pins s σ H x y v u Q I rx ry h
  obtain ⟨l, b, xs, zs, rfl, rfl, hl, hb, hz, q⟩ := h
  cases rx
  cases ry
  obtain ⟨its, r, ⟨⟨c1, d1, t1, sl1⟩, n, e, hc, hd, ht⟩, z1⟩ := I.list hl
  obtain ⟨its2, r2, ⟨⟨c2, d2, t2, sl2⟩, n2, e2, hc2, hd2, ht2⟩, z2⟩ := I.list hb
  simp only at hc hd ht hc2 hd2 ht2
  subst hc hd ht hc2 hd2 ht2
  have hlen := r.length
  have hlen2 := r2.length
  refine concat_meets ⟨_, e, rfl⟩ ⟨_, e2, rfl⟩ noFill_list_add seq_list_add PySem.F.slot_list_add PySem.F.entry_list_add (PySem.F.args_list_add_2 _ _) (list_addW l b its.toArray its2.toArray n n2 none none sl1 sl2 (by rw [List.size_toArray, List.size_toArray]; omega)) ⟨e, e2, ?_⟩
  have ea : its.toArray ++ its2.toArray = (its ++ its2).toArray := by simp
  rw [ea]
  exact ⟨.ref _, _, I.lnew (t' := s.toks) (r.append r2) (by rw [List.length_append]; omega), rfl, q _ I.fresh⟩
/-- x in t, a tuple of data -/
def rInT (K : PySem.W.Frag) (neg : Bool) : R2 := fun x y H Q => ∃ d ds, Dp K H x d ∧ Dp K H y (.tuple ds) ∧ SeqAt.shaped d = true ∧ SeqAt.shaped (.tuple ds) = true ∧ Q (.bl (if neg = true then !ds.any fun z => PyData.eqv z d else ds.any fun z => PyData.eqv z d)) H
theorem room_in_shaped' {ds : List PyData} {d : PyData} {u : Nat} (sd : SeqAt.shaped d = true) (hu : u + 65 < cLine) : u + 1 + min (PyData.depthAll ds) d.depth < cLine := by
  have h : d.depth ≤ 64 := by
    unfold SeqAt.shaped at sd
    rw [Bool.and_eq_true] at sd
    exact of_decide_eq_true sd.2
  omega
theorem canLay_tup {ds : List PyData} (h : SeqAt.shaped (.tuple ds) = true) : PyData.canLayAll0 ds = true := by
  unfold SeqAt.shaped at h
  rw [Bool.and_eq_true] at h
  simpa only [PyData.canLay0] using h.1
theorem op_inT (hu : X.A.units + 65 < cLine) : OpR X (compareOp .In) (rInT X.K false) := by
  intro pins s σ H x y v u Q I rx ry h
  obtain ⟨d, ds, hd, he, sd, se, q⟩ := h
  obtain ⟨as, r1⟩ := Dp.reads I d x v hd rx
  obtain ⟨bs, r2⟩ := Dp.reads I (.tuple ds) y u he ry
  exact SeqAt.in_tuple_reads r2 r1 (canLay_tup se) (SeqAt.canLay_of_shaped sd) (room_in_shaped' sd hu) ⟨.bl _, H, I, rfl, q⟩
theorem op_notInT (hu : X.A.units + 65 < cLine) : OpR X (compareOp .NotIn) (rInT X.K true) := by
  intro pins s σ H x y v u Q I rx ry h
  obtain ⟨d, ds, hd, he, sd, se, q⟩ := h
  obtain ⟨as, r1⟩ := Dp.reads I d x v hd rx
  obtain ⟨bs, r2⟩ := Dp.reads I (.tuple ds) y u he ry
  exact SeqAt.notIn_tuple_reads r2 r1 (canLay_tup se) (SeqAt.canLay_of_shaped sd) (room_in_shaped' sd hu) ⟨.bl _, H, I, rfl, q⟩
theorem fold_rep (b : Array Nat) : ∀ (k : Nat) (a : Array Nat), (List.foldl (· ++ ·) a (List.replicate k b)).toList = a.toList ++ (List.replicate k b.toList).flatten
  | 0, a => by simp
  | k + 1, a => by
    rw [List.replicate_succ, List.foldl_cons, fold_rep b k (a ++ b), List.replicate_succ, List.flatten_cons, Array.toList_append, List.append_assoc]
/-- a text some times -/
def mulS (z : Str) (n : Nat) : Str := ⟨((List.replicate n z.cps.toList).flatten).toArray⟩
theorem mulS_eq (z : Str) (n : Nat) : (⟨List.foldl (· ++ ·) #[] (List.replicate n z.cps)⟩ : Str) = mulS z n := by
  unfold mulS
  congr 1
  apply Array.toList_inj.mp
  rw [fold_rep]
  simp
theorem mulS_len (z : Str) (n : Nat) : (mulS z n).length = n * z.length := by
  unfold mulS Str.length
  simp
def rMulS : R2 := fun x y H Q => ∃ (z : Str) (n : Int), x = .str z ∧ y = .int n ∧ 2 ≤ n ∧ n ≤ 1000 ∧ 0 < z.length ∧ z.length ≤ 1000 ∧ Q (.str (mulS z n.toNat)) H
theorem op_mulS : OpR X (binaryOp .Mult) rMulS := by
  intro pins s σ H x y v u Q I rx ry h
  obtain ⟨z, n, rfl, rfl, n2, n3, z0, z1, q⟩ := h
  obtain ⟨t, rfl⟩ := rx
  obtain ⟨t', rfl⟩ := ry
  have h1 : ¬ n < 1 := by omega
  have h2 : (n == 1 || z.length == 0) = false := by
    simp only [Bool.or_eq_false_iff, beq_eq_false_iff_ne]
    constructor <;> omega
  have len : z.length * n.toNat ≤ 1000 * 1000 := Nat.mul_le_mul z1 (by omega)
  refine PySem.P.mul_str (by simp only [Bool.or_eq_false_iff, decide_eq_false_iff_not]; constructor <;> omega) (fun _ _ => ?_) (fun _ _ => ?_) ?_
  · have : (2 ^ 63 - 1 : Int) / n ≥ 1000 := by
      refine (Int.le_ediv_iff_mul_le (by omega)).mpr ?_
      have : (1000 : Int) * n ≤ 1000 * 1000 := by omega
      omega
    omega
  · have : sizeLine = 16777216 := sizeLine_eq
    have : ¬ z.length * n.toNat > sizeLine := by omega
    exact decide_eq_false this
  · rw [if_neg h1, h2, if_neg (by decide)]
    rw [mulS_eq]
    refine ⟨?_, ⟨.str _, H, I.tok _, ⟨_, rfl⟩, q⟩⟩
    rw [mulS_len, sizeLine_eq, Nat.mul_comm]
    omega
end

/-! ### what is walked -/
section
variable {K : PySem.W.Frag} {σ : L2.St} {B B' : Hp} {ta tb te tl : TE} {tt tu : TT} {R S T U : Rel} {Rs : List Rel} {x v : V}
/-- an iterator that gives such items, while a base stands -/
def Wk (J : It) (B1 : Hp) (Rs : List Rel) : Prop := Walk J Rs.length (fun H => Same B1 H) (fun i H x H' => ∃ R, Rs[i]? = some R ∧ ∀ Bc, Same B1 Bc → Same Bc H → ∃ Bn, Ext Bc H Bn H' ∧ R Bn x)
def Di (wi : TI) (σ : L2.St) (B : Hp) (Rs : List Rel) : Prop := ∀ B1 H, Same B B1 → Same B1 H → ∀ Q : It → Hp → Prop, (∀ J B' H', Ext B1 H B' H' → Wk J B' Rs → Q J H') → wi σ H Q
theorem Di.mono {wi : TI} (s : Same B B') (h : Di wi σ B Rs) : Di wi σ B' Rs := fun B1 H s1 s2 => h B1 H (s.trans s1) s2
theorem Di.list [m : MoA Rs] (h : De tl σ B (lstR K Rs)) : Di (iList K tl) σ B Rs := fun B1 H s1 s2 Q q => h B1 H s1 s2 _ fun v B2 H2 e hv => by
  obtain ⟨a, xs, rfl, hs, hR⟩ := hv
  refine ⟨a, rfl, ⟨xs, e.bh.seq hs⟩, q _ B2 H2 e ?_⟩
  have len := allR_len hR
  unfold Wk
  rw [← len]
  refine (walk_list (K := K) (a := a) (xs := xs)).mono (fun H' s => s.seq hs) fun i H' x H'' hi s y => ?_
  obtain ⟨rfl, hx⟩ := y
  obtain ⟨R, hR1, hR2⟩ := allR_at hR hx
  exact ⟨R, hR1, fun Bc sc sh => ⟨Bc, .refl sh, by
    obtain ⟨v', hv', hR3⟩ := allR_of (m.mo sc hR) hR1
    rw [hx] at hv'
    cases hv'
    exact hR3⟩⟩
theorem Di.tup [m : MoA Rs] (h : De tl σ B (tupR K Rs)) : Di (iTup K tl) σ B Rs := fun B1 H s1 s2 Q q => h B1 H s1 s2 _ fun v B2 H2 e hv => by
  obtain ⟨a, xs, rfl, hs, hR⟩ := hv
  refine ⟨a, rfl, ⟨xs, seqT e.bh hs⟩, q _ B2 H2 e ?_⟩
  have len := allR_len hR
  unfold Wk
  rw [← len]
  refine (walk_tup (K := K) (a := a) (xs := xs)).mono (fun H' s => seqT s hs) fun i H' x H'' hi s y => ?_
  obtain ⟨rfl, hx⟩ := y
  obtain ⟨R, hR1, hR2⟩ := allR_at hR hx
  exact ⟨R, hR1, fun Bc sc sh => ⟨Bc, .refl sh, by
    obtain ⟨v', hv', hR3⟩ := allR_of (m.mo sc hR) hR1
    rw [hx] at hv'
    cases hv'
    exact hR3⟩⟩
theorem Di.listD {ds : List PyData} (h : De tl σ B (dat K (.list ds))) : Di (iList K tl) σ B (ds.map (dat K)) := .list (h.conv fun _ _ => dat_lstR)
theorem Di.tupD {ds : List PyData} (h : De tl σ B (dat K (.tuple ds))) : Di (iTup K tl) σ B (ds.map (dat K)) := .tup (h.conv fun _ _ => dat_tupR)
def intsR (K : PySem.W.Frag) (lo : Int) (n : Nat) : List Rel := (List.range n).map fun i : Nat => dat K (.int (lo + (i : Int)))
theorem wk_ints {lo : Int} {n : Nat} : Wk (Itr lo n) B (intsR K lo n) := by
  unfold Wk intsR
  rw [List.length_map, List.length_range]
  refine (walk_range (lo := lo) (n := n)).mono (fun _ _ => trivial) fun i H' x H'' hi s y => ?_
  obtain ⟨rfl, rfl⟩ := y
  refine ⟨dat K (.int (lo + (i : Int))), by rw [List.getElem?_map, List.getElem?_range hi]; rfl, fun Bc sc sh => ⟨Bc, .refl sh, Dp.int _⟩⟩
theorem Di.rng1 {ta : TA} {n : Int} (h : Da ta σ B [dat K (.int n)]) (h0 : -(2 ^ 62) ≤ n) (h1 : n < 2 ^ 62) : Di (iRng1 ta) σ B (intsR K 0 n.toNat) := fun B1 H s1 s2 Q q => h B1 H s1 s2 _ fun vs B2 H2 e hv => by
  obtain ⟨v, r, rfl, h2, h3⟩ := hv
  have h3 : r = [] := h3
  subst h3
  have h2 := dat_int h2
  subst h2
  exact ⟨n, rfl, h0, h1, q _ B2 H2 e wk_ints⟩
theorem Di.rng2 {ta : TA} {lo n : Int} (h : Da ta σ B [dat K (.int lo), dat K (.int n)]) (h0 : -(2 ^ 62) ≤ lo ∧ lo < 2 ^ 62 ∧ -(2 ^ 62) ≤ n ∧ n < 2 ^ 62) : Di (iRng2 ta) σ B (intsR K lo (n - lo).toNat) := fun B1 H s1 s2 Q q => h B1 H s1 s2 _ fun vs B2 H2 e hv => by
  obtain ⟨v, r, rfl, h2, v', r', rfl, h4, h5⟩ := hv
  have h5 : r' = [] := h5
  subst h5
  have h2 := dat_int h2
  subst h2
  have h4 := dat_int h4
  subst h4
  exact ⟨lo, n, rfl, h0, q _ B2 H2 e wk_ints⟩
theorem Di.str {z : Str} (h : De tl σ B (dat K (.str z))) : Di (iStr tl) σ B (z.cps.toList.map fun c => dat K (.str ⟨#[c]⟩)) := fun B1 H s1 s2 Q q => h B1 H s1 s2 _ fun v B2 H2 e hv => by
  have hv := dat_str hv
  subst hv
  refine ⟨z, rfl, q _ B2 H2 e ?_⟩
  unfold Wk
  have len : (z.cps.toList.map fun c => dat K (.str ⟨#[c]⟩)).length = z.cps.size := by simp
  rw [len]
  refine (walk_str (z := z)).mono (fun _ _ => trivial) fun i H' x H'' hi s y => ?_
  obtain ⟨rfl, c, hc, rfl⟩ := y
  refine ⟨dat K (.str ⟨#[c]⟩), ?_, fun Bc sc sh => ⟨Bc, .refl sh, Dp.str _⟩⟩
  rw [List.getElem?_map, Array.getElem?_toList, hc]
  rfl
/-- a new pair -/
theorem pair_new {R S : Rel} [m1 : Mo R] [m2 : Mo S] {Bc H : Hp} {p : Addr} {x y : V} (sh : Same Bc H) (hp : H p = none) (hx : R Bc x) (hy : S Bc y) : ∃ Bn, Ext Bc H Bn (upd H p (.tup [x, y])) ∧ tupR K [R, S] Bn (.ref p) :=
  ⟨upd Bc p (.tup [x, y]), .new sh hp, p, _, rfl, SqT.of upd_same, x, [y], rfl, m1.mo (new_same (sh.free hp)) hx, y, [], rfl, m2.mo (new_same (sh.free hp)) hy, rfl⟩
theorem Di.zip {ta : TA} {Ss : List Rel} [m : MoA Rs] [m' : MoA Ss] (hm : ∀ R ∈ Rs, Mo R) (hm' : ∀ R ∈ Ss, Mo R) (h : Da ta σ B [lstR K Rs, lstR K Ss]) : Di (iZip K ta) σ B ((Rs.zip Ss).map fun p => tupR K [p.1, p.2]) := fun B1 H s1 s2 Q q => h B1 H s1 s2 _ fun vs B2 H2 e hv => by
  obtain ⟨v, r, rfl, ⟨a, xs, rfl, hs, hR⟩, v', r', rfl, ⟨b, ys, rfl, hs', hR'⟩, h5⟩ := hv
  have h5 : r' = [] := h5
  subst h5
  refine ⟨a, b, xs, ys, rfl, e.bh.seq hs, e.bh.seq hs', q _ B2 H2 e ?_⟩
  have len := allR_len hR
  have len' := allR_len hR'
  unfold Wk
  rw [List.length_map]
  refine (walk_zip (K := K) (a := a) (b := b) (xs := xs) (ys := ys) (n := (Rs.zip Ss).length) (by rw [List.length_zip, len, len'])).mono (fun H' s => ⟨s.seq hs, s.seq hs'⟩) fun i H' x H'' hi s y => ?_
  obtain ⟨p, u, w, rfl, hp, rfl, hu, hw⟩ := y
  have hu : xs[i]? = some u := hu
  have hw : ys[i]? = some w := hw
  obtain ⟨R, hR1, _⟩ := allR_at hR hu
  obtain ⟨S, hS1, _⟩ := allR_at hR' hw
  refine ⟨tupR K [R, S], ?_, fun Bc sc sh => ?_⟩
  · rw [List.getElem?_map, List.getElem?_zip_eq_some (z := (R, S)) |>.mpr ⟨hR1, hS1⟩]
    rfl
  · have := hm R (List.mem_of_getElem? hR1)
    have := hm' S (List.mem_of_getElem? hS1)
    obtain ⟨v1, hv1, q1⟩ := allR_of (m.mo sc hR) hR1
    obtain ⟨v2, hv2, q2⟩ := allR_of (m'.mo sc hR') hS1
    rw [hu] at hv1
    rw [hw] at hv2
    cases hv1
    cases hv2
    exact pair_new sh hp q1 q2
theorem Di.enum {ta : TA} [m : MoA Rs] (hm : ∀ R ∈ Rs, Mo R) (h : Da ta σ B [lstR K Rs]) : Di (iEnum K ta) σ B (Rs.zipIdx.map fun p => tupR K [dat K (.int (p.2 : Int)), p.1]) := fun B1 H s1 s2 Q q => h B1 H s1 s2 _ fun vs B2 H2 e hv => by
  obtain ⟨v, r, rfl, ⟨a, xs, rfl, hs, hR⟩, h5⟩ := hv
  have h5 : r = [] := h5
  subst h5
  refine ⟨a, xs, rfl, e.bh.seq hs, q _ B2 H2 e ?_⟩
  have len := allR_len hR
  unfold Wk
  rw [List.length_map, List.length_zipIdx, ← len]
  refine (walk_enum (K := K) (a := a) (xs := xs)).mono (fun H' s => s.seq hs) fun i H' x H'' hi s y => ?_
  obtain ⟨p, u, w, rfl, hp, rfl, hu, hw⟩ := y
  cases hu
  have hw : xs[i]? = some w := hw
  obtain ⟨R, hR1, _⟩ := allR_at hR hw
  refine ⟨tupR K [dat K (.int (i : Int)), R], ?_, fun Bc sc sh => ?_⟩
  · rw [List.getElem?_map, List.getElem?_zipIdx, hR1]
    simp
  · have := hm R (List.mem_of_getElem? hR1)
    obtain ⟨v1, hv1, q1⟩ := allR_of (m.mo sc hR) hR1
    rw [hw] at hv1
    cases hv1
    exact pair_new sh hp (Dp.int _) q1

/-! ### loops -/
/-- what is wanted behind a turn -/
def Nx (B1 : Hp) (P : L2.St → Hp → Hp → Prop) : L2.St → Hp → Prop := fun σ H => ∃ B', Same B1 B' ∧ Same B' H ∧ P σ B' H
theorem s_for {wi : TI} {g : TG} {ts : TS} {D : Ends} {H : Hp} (hi : Di wi σ B Rs) (hB : Same B H) (Pv : Nat → L2.St → Hp → Hp → Prop) (h0 : ∀ B' H', Ext B H B' H' → Pv 0 σ B' H')
    (hs : ∀ B1 i R v σ' Bc Hc Bn Hn, Same B B1 → Same B1 Bc → Rs[i]? = some R → Pv i σ' Bc Hc → Ext Bc Hc Bn Hn → R Bn v → g v σ' Hn fun σ2 H2 => ts { D with nx := Nx B1 (Pv (i + 1)), ct := Nx B1 (Pv (i + 1)), bk := D.nx } σ2 H2)
    (hd : ∀ σ' B' H', Same B B' → Same B' H' → Pv Rs.length σ' B' H' → D.nx σ' H') : tFor wi g ts D σ H :=
  hi B H (Same.refl _) hB _ fun J B1 H1 e hw => for_it hw (fun i σ' H' => Nx B1 (Pv i) σ' H') ⟨B1, Same.refl _, e.bh, h0 B1 H1 e⟩ (fun i σ' H' _ ⟨B', s1, s2, _⟩ => s1.trans s2)
    (fun i x σ' H' H'' hi ⟨Bc, s1, s2, p⟩ ⟨R, hR, y⟩ => by
      obtain ⟨Bn, e2, hx⟩ := y Bc s1 s2
      exact hs B1 i R x σ' Bc H' Bn H'' e.bb s1 hR p e2 hx)
    (fun σ' H' ⟨B', s1, s2, p⟩ => hd σ' B' H' (e.bb.trans s1) s2 p)

/-! ### comprehensions -/
theorem De.lc {α : Type} {as : List α} {r : α → Rel} {wi : TI} {g : TG} {vs : List Nat} (hi : Di wi σ B (as.map r)) (p : α → Bool) (o : α → Rel) [mo : ∀ a, Mo (o a)] (hz : as.length < sizeLine)
    (turn : ∀ a v Bn H, a ∈ as → Same B Bn → Same Bn H → r a Bn v → ∃ σ2, (∀ Q : L2.St → Hp → Prop, Q σ2 H → g v (wipe σ vs) H Q) ∧ wipe σ2 vs = wipe σ vs ∧ Dt tt σ2 Bn (p a) ∧ (p a = true → De te σ2 Bn (o a))) :
    De (tLc wi g tt te vs) σ B (lstR K ((as.filter p).map o)) := fun B1 H s1 s2 Q q => hi B1 H s1 s2 _ fun J B2 H2 e hw => fun D hD => by
  have moA : ∀ l : List α, MoA (l.map o) := fun l => moA_of fun R h => by
    obtain ⟨a, _, rfl⟩ := List.mem_map.mp h
    exact mo a
  have hw' : Walk J as.length (fun H => Same B2 H) (fun i H x H' => ∃ R, (as.map r)[i]? = some R ∧ ∀ Bc, Same B2 Bc → Same Bc H → ∃ Bn, Ext Bc H Bn H' ∧ R Bn x) := by
    have := hw
    unfold Wk at this
    rw [List.length_map] at this
    exact this
  refine lc_it hw' (fun i H' => ∃ B' xs, Ext B2 H2 B' H' ∧ B' D = none ∧ H' D = some (.lst xs) ∧ xs.length ≤ i ∧ AllR (((as.take i).filter p).map o) B' xs) ?_ (fun i H' _ ⟨B', xs, e', _⟩ => e'.bb.trans e'.bh) ?_ ?_
  · exact ⟨B2, [], .own e.bh hD, e.bh.free hD, upd_same, Nat.le_refl _, by rw [List.take_zero]; rfl⟩
  · rintro i x H' H'' hi' ⟨B', xs, e', nD, atD, few, hxs⟩ ⟨R, hR, y⟩
    obtain ⟨Bn, e2, hx⟩ := y B' e'.bb e'.bh
    rw [List.getElem?_map] at hR
    obtain ⟨a, ha, rfl⟩ := Option.map_eq_some_iff.mp hR
    obtain ⟨σ2, t1, t2, t3, t4⟩ := turn a x Bn H'' (List.mem_of_getElem? ha) (((s1.trans e.bb).trans e'.bb).trans e2.bb) e2.bh hx
    have atD2 := e2.hh _ _ atD
    have nD2 : Bn D = none := e2.nw D (by rw [atD]; exact fun z => nomatch z) nD
    have tk : as.take (i + 1) = as.take i ++ [a] := by rw [List.take_succ, ha]; rfl
    refine t1 _ ⟨t2, t3 Bn H'' (Same.refl _) e2.bh _ fun B3 H3 e3 => ?_⟩
    have atD3 := e3.hh _ _ atD2
    have nD3 : B3 D = none := e3.nw D (by rw [atD2]; exact fun z => nomatch z) nD2
    have e13 := (e'.trans e2).trans e3
    cases hp : p a with
    | true =>
      refine t4 hp B3 H3 e3.bb e3.bh _ fun y B4 H4 e4 hy => ?_
      have atD4 := e4.hh _ _ atD3
      have nD4 : B4 D = none := e4.nw D (by rw [atD3]; exact fun z => nomatch z) nD3
      have e14 := e13.trans e4
      refine ⟨xs, atD4, by omega, B4, xs ++ [y], ⟨fun b u hb => ?_, e14.bb, fun b u hb => ?_, e14.nw⟩, nD4, upd_same, by simp; omega, ?_⟩
      · rw [upd_ne (ne_of_none hb hD)]
        exact e14.hh b u hb
      · rw [upd_ne (ne_of_none hb nD4)]
        exact e14.bh b u hb
      · rw [tk, List.filter_append, List.map_append]
        have : [a].filter p = [a] := by simp [hp]
        rw [this]
        exact allR_snoc ((moA _).mo ((e2.bb.trans e3.bb).trans e4.bb) hxs) hy
    | false =>
      refine ⟨B3, xs, e13, nD3, atD3, by omega, ?_⟩
      rw [tk, List.filter_append]
      have : [a].filter p = [] := by simp [hp]
      rw [this, List.append_nil]
      exact (moA _).mo (e2.bb.trans e3.bb) hxs
  · rintro H' ⟨B', xs, e', nD, atD, few, hxs⟩
    rw [List.take_length] at hxs
    refine q (.ref D) (upd B' D (.lst xs)) H' ⟨e.hh.trans e'.hh, (e.bb.trans e'.bb).trans (new_same nD), fun b u hb => ?_, fun b h1 h2 => ?_⟩ ⟨D, xs, rfl, SqL.of upd_same, (moA _).mo (new_same nD) hxs⟩
    · by_cases z : b = D
      · subst z
        rw [upd_same] at hb
        cases hb
        exact atD
      · rw [upd_ne z] at hb
        exact e'.bh b u hb
    · have z : b ≠ D := by
        rintro rfl
        cases w : H b with
        | none => exact h1 w
        | some u =>
          rw [e.hh b u w] at hD
          cases hD
      rw [upd_ne z]
      exact (e.trans e').nw b h1 h2
/-- .. of data -/
theorem De.lcD {α : Type} {as : List α} {r : α → Rel} {wi : TI} {g : TG} {vs : List Nat} (hi : Di wi σ B (as.map r)) (p : α → Bool) (o : α → PyData) (hz : as.length < sizeLine)
    (turn : ∀ a v Bn H, a ∈ as → Same B Bn → Same Bn H → r a Bn v → ∃ σ2, (∀ Q : L2.St → Hp → Prop, Q σ2 H → g v (wipe σ vs) H Q) ∧ wipe σ2 vs = wipe σ vs ∧ Dt tt σ2 Bn (p a) ∧ (p a = true → De te σ2 Bn (dat K (o a)))) :
    De (tLc wi g tt te vs) σ B (dat K (.list ((as.filter p).map o))) :=
  (De.lc (K := K) hi p (fun a => dat K (o a)) hz turn).conv fun B' v h => lstR_dat (by rw [List.map_map]; exact h)
/-- without a test -/
theorem De.lcA {α : Type} {as : List α} {r : α → Rel} {wi : TI} {g : TG} {vs : List Nat} (hi : Di wi σ B (as.map r)) (o : α → PyData) (hz : as.length < sizeLine)
    (turn : ∀ a v Bn H, a ∈ as → Same B Bn → Same Bn H → r a Bn v → ∃ σ2, (∀ Q : L2.St → Hp → Prop, Q σ2 H → g v (wipe σ vs) H Q) ∧ wipe σ2 vs = wipe σ vs ∧ De te σ2 Bn (dat K (o a))) :
    De (tLc wi g tYes te vs) σ B (dat K (.list (as.map o))) := by
  have := De.lcD (K := K) (tt := tYes) (te := te) hi (fun _ => true) o hz fun a v Bn H h1 h2 h3 h4 => by
    obtain ⟨σ2, t1, t2, t3⟩ := turn a v Bn H h1 h2 h3 h4
    exact ⟨σ2, t1, t2, .yes, fun _ => t3⟩
  rw [List.filter_eq_self.mpr (fun _ _ => rfl)] at this
  exact this
/-- a pair is taken apart -/
theorem gTup2 {Bn H : Hp} {v : V} {R S : Rel} {σ1 : L2.St} {i j : Nat} (s : Same Bn H) (h : tupR K [R, S] Bn v) : ∃ x y, R Bn x ∧ S Bn y ∧ ∀ Q : L2.St → Hp → Prop, Q ((σ1.set i (some x)).set j (some y)) H → gTup K 2 (gCons (gName i) (gCons (gName j) gNil)) v σ1 H Q := by
  obtain ⟨a, xs, rfl, hs, x, r, rfl, hx, y, r', rfl, hy, hr⟩ := h
  have hr : r' = [] := hr
  subst hr
  exact ⟨x, y, hx, hy, fun Q q => ⟨a, _, rfl, seqT s hs, rfl, x, [y], rfl, y, [], rfl, rfl, q⟩⟩
theorem dat_pair {d e : PyData} {Bn : Hp} {v : V} (h : dat K (.tuple [d, e]) Bn v) : tupR K [dat K d, dat K e] Bn v := dat_tupR h

/-! ### built-in functions -/
theorem rc_len {ds : List PyData} : Rc (fun xs H Q => ∃ x n, xs = [x] ∧ LenV K x H n ∧ Q (.int n) H) B [dat K (.list ds)] (dat K (.int (ds.length : Int))) := fun vs B1 H _ s2 hv Q q => by
  obtain ⟨v, r, rfl, h, h2⟩ := hv
  have h2 : r = [] := h2
  subst h2
  obtain ⟨a, xs, rfl, hs, hR⟩ := dat_lstR h
  have len := allR_len hR
  rw [List.length_map] at len
  exact ⟨.ref a, ds.length, rfl, .inl ⟨xs, s2.seq hs, len.symm⟩, q _ B1 H (.refl s2) (.int _)⟩
theorem rc_lenT {ds : List PyData} : Rc (fun xs H Q => ∃ x n, xs = [x] ∧ LenV K x H n ∧ Q (.int n) H) B [dat K (.tuple ds)] (dat K (.int (ds.length : Int))) := fun vs B1 H _ s2 hv Q q => by
  obtain ⟨v, r, rfl, h, h2⟩ := hv
  have h2 : r = [] := h2
  subst h2
  obtain ⟨a, xs, rfl, hs, hR⟩ := dat_tupR h
  have len := allR_len hR
  rw [List.length_map] at len
  exact ⟨.ref a, ds.length, rfl, .inr ⟨xs, seqT s2 hs, len.symm⟩, q _ B1 H (.refl s2) (.int _)⟩
theorem rc_lenS {z : Str} (hz : z.length ≤ sizeLine) : Rc (fun xs H Q => ∃ x n, xs = [x] ∧ LenV K x H n ∧ Q (.int n) H) B [dat K (.str z)] (dat K (.int (z.length : Int))) := fun vs B1 H _ s2 hv Q q => by
  obtain ⟨v, r, rfl, h, h2⟩ := hv
  have h2 : r = [] := h2
  subst h2
  have h := dat_str h
  subst h
  exact ⟨.str z, z.length, rfl, ⟨hz, rfl⟩, q _ B1 H (.refl s2) (.int _)⟩
theorem rc_show {d : PyData} (h : Shw d) : Rc (rShow K) B [dat K d] (dat K (.str d.shown)) := fun vs B1 H _ s2 hv Q q => by
  obtain ⟨v, r, rfl, hv, h2⟩ := hv
  have h2 : r = [] := h2
  subst h2
  exact ⟨v, d, rfl, dpMono s2 _ _ hv, h.1, h.2.1, h.2.2.1, h.2.2.2, q _ B1 H (.refl s2) (.str _)⟩
theorem rc_tupL {Rs : List Rel} [m : MoA Rs] : Rc (fun xs H Q => ∃ p ys, xs = [.ref p] ∧ ((SqL K H p ys ∧ ∀ l, H l = none → Q (.ref l) (upd H l (.tup ys))) ∨ (SqT K H p ys ∧ Q (.ref p) H))) B [lstR K Rs] (tupR K Rs) := fun vs B1 H _ s2 hv Q q => by
  obtain ⟨v, r, rfl, ⟨a, xs, rfl, hs, hR⟩, h2⟩ := hv
  have h2 : r = [] := h2
  subst h2
  exact ⟨a, xs, rfl, .inl ⟨s2.seq hs, fun p hp => q _ (upd B1 p (.tup xs)) _ (.new s2 hp) ⟨p, xs, rfl, SqT.of upd_same, m.mo (new_same (s2.free hp)) hR⟩⟩⟩
theorem rc_tupT {Rs : List Rel} [m : MoA Rs] : Rc (fun xs H Q => ∃ p ys, xs = [.ref p] ∧ ((SqL K H p ys ∧ ∀ l, H l = none → Q (.ref l) (upd H l (.tup ys))) ∨ (SqT K H p ys ∧ Q (.ref p) H))) B [tupR K Rs] (tupR K Rs) := fun vs B1 H _ s2 hv Q q => by
  obtain ⟨v, r, rfl, ⟨a, xs, rfl, hs, hR⟩, h2⟩ := hv
  have h2 : r = [] := h2
  subst h2
  exact ⟨a, xs, rfl, .inr ⟨seqT s2 hs, q _ B1 H (.refl s2) ⟨a, xs, rfl, hs, hR⟩⟩⟩
theorem rc_lstL {Rs : List Rel} [m : MoA Rs] : Rc (fun xs H Q => ∃ p ys, xs = [.ref p] ∧ (SqL K H p ys ∨ SqT K H p ys) ∧ ∀ l, H l = none → Q (.ref l) (upd H l (.lst ys))) B [lstR K Rs] (lstR K Rs) := fun vs B1 H _ s2 hv Q q => by
  obtain ⟨v, r, rfl, ⟨a, xs, rfl, hs, hR⟩, h2⟩ := hv
  have h2 : r = [] := h2
  subst h2
  exact ⟨a, xs, rfl, .inl (s2.seq hs), fun p hp => q _ (upd B1 p (.lst xs)) _ (.new s2 hp) ⟨p, xs, rfl, SqL.of upd_same, m.mo (new_same (s2.free hp)) hR⟩⟩
theorem rc_lstT {Rs : List Rel} [m : MoA Rs] : Rc (fun xs H Q => ∃ p ys, xs = [.ref p] ∧ (SqL K H p ys ∨ SqT K H p ys) ∧ ∀ l, H l = none → Q (.ref l) (upd H l (.lst ys))) B [tupR K Rs] (lstR K Rs) := fun vs B1 H _ s2 hv Q q => by
  obtain ⟨v, r, rfl, ⟨a, xs, rfl, hs, hR⟩, h2⟩ := hv
  have h2 : r = [] := h2
  subst h2
  exact ⟨a, xs, rfl, .inr (seqT s2 hs), fun p hp => q _ (upd B1 p (.lst xs)) _ (.new s2 hp) ⟨p, xs, rfl, SqL.of upd_same, m.mo (new_same (s2.free hp)) hR⟩⟩
theorem rc_sorted {ds : List PyData} (hal : PySem.W.AllAlike ds) (hk : PySem.W.SortOk ds) (hd : ∀ d ∈ ds, d.depth ≤ 60) : Rc (rSortedD K) B [dat K (.list ds)] (dat K (.list (sortD ds))) := fun vs B1 H _ s2 hv Q q => by
  obtain ⟨v, r, rfl, h, h2⟩ := hv
  have h2 : r = [] := h2
  subst h2
  obtain ⟨a, xs, rfl, hs, hR⟩ := dat_lstR h
  have g := allR_dp hR
  exact ⟨a, xs, ds, rfl, s2.seq hs, dpMonoAll s2 _ _ g, hal, hk, hd, fun p hp => q _ (upd B1 p (.lst (sortV xs ds))) _ (.new s2 hp) (.lst (SqL.of upd_same) (dpMonoAll (new_same (s2.free hp)) _ _ (dp_sort g)))⟩
/-- lists and tuples of data, by what they are -/
theorem Da.one {d : PyData} (h : De ta σ B (dat K d)) : Da (tCons ta tNil) σ B [dat K d] := .cons h .nil

/-! ### objects that never change -/
def AllF : List (Str × Rel) → Hp → List (Str × V) → Prop
  | [], _, us => us = []
  | (f, R) :: r, B, us => ∃ v u, us = (f, v) :: u ∧ R B v ∧ AllF r B u
class MoF (fs : List (Str × Rel)) : Prop where
  mo : ∀ {B B' : Hp} {us : List (Str × V)}, Same B B' → AllF fs B us → AllF fs B' us
instance : MoF [] := ⟨fun _ h => h⟩
instance {f : Str} {R : Rel} {r : List (Str × Rel)} [m : Mo R] [t : MoF r] : MoF ((f, R) :: r) := ⟨fun s ⟨v, u, e, h, g⟩ => ⟨v, u, e, m.mo s h, t.mo s g⟩⟩
def insR (C : Addr) (fs : List (Str × Rel)) : Rel := fun B v => ∃ a dx us, v = .ref a ∧ B a = some (.ins C dx us) ∧ AllF fs B us
instance {C : Addr} {fs : List (Str × Rel)} [m : MoF fs] : Mo (insR C fs) := ⟨fun s ⟨a, dx, us, e, h, g⟩ => ⟨a, dx, us, e, s _ _ h, m.mo s g⟩⟩
theorem allF_get {f : Str} : ∀ {fs : List (Str × Rel)} {us : List (Str × V)}, AllF fs B us → fs.lookup f = some R → ∃ v, us.lookup f = some v ∧ R B v
  | (g, S) :: r, _, ⟨v, u, e, h, t⟩, z => by
    subst e
    simp only [List.lookup] at *
    cases q : f == g with
    | true =>
      rw [q] at z
      cases z
      exact ⟨v, rfl, h⟩
    | false =>
      rw [q] at z
      exact allF_get t z
theorem De.fld {C : Addr} {f : Str} {fs : List (Str × Rel)} (he : De te σ B (insR C fs)) (c : Cls K C) (n : NoAttr K C f) (hf : fs.lookup f = some R) : De (tFld K te f) σ B R := fun B1 H s1 s2 Q q => he B1 H s1 s2 _ fun v B2 H2 e hv => by
  obtain ⟨a, dx, us, rfl, h, g⟩ := hv
  obtain ⟨x, hx, hR⟩ := allF_get g hf
  exact ⟨a, C, dx, us, x, rfl, e.bh _ _ h, c, n, hx, q x B2 H2 e hR⟩
/-- __init__ that keeps its arguments -/
def spIns (C : Addr) (fs : List Str) : Sp := fun vs H Q _ => ∃ (x dx : Addr) (us : List V), vs = .ref x :: us ∧ us.length = fs.length ∧ H x = some (.ins C dx []) ∧ Q .non (upd H x (.ins C dx (fs.zip us)))
theorem allF_zip : ∀ {fs : List Str} {Rs : List Rel} {us : List V}, fs.length = Rs.length → AllR Rs B us → AllF (fs.zip Rs) B (fs.zip us)
  | [], [], _, _, _ => rfl
  | f :: fs, R :: Rs, _, h, ⟨v, u, e, g, t⟩ => by
    subst e
    exact ⟨v, _, rfl, g, allF_zip (by simpa using h) t⟩
theorem upd_over {H : Hp} {x d : Addr} {o p q : HO} : upd (upd (upd H d p) x o) x q = upd (upd H d p) x q := by
  funext b
  unfold upd
  by_cases h : b = x
  · rw [if_pos h, if_pos h]
  · rw [if_neg h, if_neg h, if_neg h]
theorem De.make {C : Addr} {fs : List Str} {E : XK} {ta : TA} [m : MoA Rs] (ha : Da ta σ B Rs) (hl : fs.length = Rs.length) : De (tMake C (spIns C fs) [] E ta) σ B (insR C (fs.zip Rs)) := fun B1 H s1 s2 Q q =>
  ha B1 H s1 s2 _ fun vs B2 H2 e hv => fun x dx hx hd ne => by
    have len := allR_len hv
    refine ⟨x, dx, vs, by rw [List.append_nil], by omega, upd_same, rfl, ?_⟩
    rw [upd_over]
    have e1 : Ext B2 H2 B2 (upd H2 dx (.own x)) := .own e.bh hd
    have hx1 : upd H2 dx (.own x) x = none := by
      rw [upd_ne ne.symm]
      exact hx
    have e2 := Ext.new (o := .ins C dx (fs.zip vs)) e1.bh hx1
    exact q _ _ _ ((e.trans e1).trans e2) ⟨x, dx, _, rfl, upd_same, allF_zip hl (m.mo (new_same (e.bh.free hx)) hv)⟩
end
end Wv

set_option Elab.async false
set_option linter.all false
set_option maxRecDepth 100000
set_option maxHeartbeats 4000000
/-! Wv2: comprehensions with two fors, list(range), classes by their names, data args. -/
namespace Wv
open PySem PySem.Spec PyProof.Rows L2 Wb
section
variable {K : PySem.W.Frag} {σ : L2.St} {B B' : Hp} {ta tb te tl : TE} {tt tu : TT} {R S T U : Rel} {Rs : List Rel} {x v : V}
theorem stays {B H B' H' : Hp} {D : Addr} {o : HO} (e : Ext B H B' H') (h : H D = some o) (n : B D = none) : H' D = some o ∧ B' D = none :=
  ⟨e.hh _ _ h, e.nw D (by rw [h]; exact fun z => nomatch z) n⟩
/-- one more in a list that is being made -/
theorem grown {B2 H2 B4 H4 : Hp} {D : Addr} {xs : List V} {y : V} (hD : H2 D = none) (e : Ext B2 H2 B4 H4) (n : B4 D = none) : Ext B2 H2 B4 (upd H4 D (.lst (xs ++ [y]))) :=
  ⟨fun b u hb => by
    rw [upd_ne (ne_of_none hb hD)]
    exact e.hh b u hb, e.bb, fun b u hb => by
    rw [upd_ne (ne_of_none hb n)]
    exact e.bh b u hb, e.nw⟩
theorem De.lc2D {α β : Type} {as : List α} {r : α → Rel} {wi wi1 : TI} {g g1 : TG} {vs vs1 : List Nat} (hi : Di wi σ B (as.map r)) (bs : α → List β) (r1 : α → β → Rel) (o : α → β → PyData) (hz : (as.flatMap fun a => (bs a).map (o a)).length < sizeLine)
    (turn : ∀ a v Bn H, a ∈ as → Same B Bn → Same Bn H → r a Bn v → ∃ σ2, (∀ Q : L2.St → Hp → Prop, Q σ2 H → g v (wipe σ vs) H Q) ∧ wipe σ2 vs = wipe σ vs ∧ Di wi1 σ2 Bn ((bs a).map (r1 a)) ∧
      ∀ b v' Bm H', b ∈ bs a → Same Bn Bm → Same Bm H' → r1 a b Bm v' → ∃ σ3, (∀ Q : L2.St → Hp → Prop, Q σ3 H' → g1 v' (wipe σ2 vs1) H' Q) ∧ wipe σ3 vs1 = wipe σ2 vs1 ∧ De te σ3 Bm (dat K (o a b))) :
    De (tLc2 wi g tYes wi1 g1 tYes te vs vs1) σ B (dat K (.list (as.flatMap fun a => (bs a).map (o a)))) := fun B1 H s1 s2 Q q => hi B1 H s1 s2 _ fun J B2 H2 e hw => fun D hD => by
  have w : Walk J as.length (fun H => Same B2 H) (fun i H x H' => ∃ R, (as.map r)[i]? = some R ∧ ∀ Bc, Same B2 Bc → Same Bc H → ∃ Bn, Ext Bc H Bn H' ∧ R Bn x) := by
    have := hw
    unfold Wk at this
    rw [List.length_map] at this
    exact this
  have part : ∀ i, i ≤ as.length → ((as.take i).flatMap fun a => (bs a).map (o a)).length ≤ (as.flatMap fun a => (bs a).map (o a)).length := fun i _ => by
    conv => rhs; rw [← List.take_append_drop i as, List.flatMap_append, List.length_append]
    omega
  refine ⟨fun i m H' => m = as.length - i ∧ i ≤ as.length ∧ ∃ B' xs, Ext B2 H2 B' H' ∧ B' D = none ∧ H' D = some (.lst xs) ∧ AllR (((as.take i).flatMap fun a => (bs a).map (o a)).map (dat K)) B' xs,
    ⟨as.length, rfl, Nat.zero_le _, B2, [], .own e.bh hD, e.bh.free hD, upd_same, by rw [List.take_zero]; rfl⟩, ?_⟩
  rintro i m H' ⟨rfl, le, B', xs, e', nD, atD, hxs⟩
  by_cases lt : i < as.length
  · refine .inr ⟨w.goes i H' lt (e'.bb.trans e'.bh), fun H'' => ∃ B' xs, Ext B2 H2 B' H'' ∧ B' D = none ∧ H'' D = some (.lst xs) ∧ AllR (((as.take (i + 1)).flatMap fun a => (bs a).map (o a)).map (dat K)) B' xs,
      fun H'' h => ⟨as.length - (i + 1), by omega, rfl, lt, h⟩, fun x H'' y => ?_⟩
    obtain ⟨R, hR, y⟩ := w.yields i H' x H'' lt (e'.bb.trans e'.bh) y
    obtain ⟨Bn, e2, hx⟩ := y B' e'.bb e'.bh
    rw [List.getElem?_map] at hR
    obtain ⟨a, ha, rfl⟩ := Option.map_eq_some_iff.mp hR
    obtain ⟨σ2, t1, t2, t3, t4⟩ := turn a x Bn H'' (List.mem_of_getElem? ha) (((s1.trans e.bb).trans e'.bb).trans e2.bb) e2.bh hx
    obtain ⟨atD2, nD2⟩ := stays e2 atD nD
    have tk : as.take (i + 1) = as.take i ++ [a] := by rw [List.take_succ, ha]; rfl
    have pt := part (i + 1) lt
    rw [tk, List.flatMap_append, List.length_append] at pt
    have e1f : ([a].flatMap fun a => (bs a).map (o a)) = (bs a).map (o a) := by simp
    rw [e1f, List.length_map] at pt
    refine t1 _ ⟨t2, ?_⟩
    show wi1 σ2 H'' _
    refine t3 Bn H'' (Same.refl _) e2.bh _ fun J1 Bm H4 e3 hw1 => ?_
    have w1 : Walk J1 (bs a).length (fun H => Same Bm H) (fun i H x H' => ∃ R, ((bs a).map (r1 a))[i]? = some R ∧ ∀ Bc, Same Bm Bc → Same Bc H → ∃ Bn, Ext Bc H Bn H' ∧ R Bn x) := by
      have := hw1
      unfold Wk at this
      rw [List.length_map] at this
      exact this
    obtain ⟨atD3, nD3⟩ := stays e3 atD2 nD2
    have e13 := (e'.trans e2).trans e3
    refine ⟨fun j k H5 => k = (bs a).length - j ∧ j ≤ (bs a).length ∧ ∃ B5 ys, Ext B2 H2 B5 H5 ∧ Same Bm B5 ∧ B5 D = none ∧ H5 D = some (.lst ys) ∧ AllR ((((as.take i).flatMap fun a => (bs a).map (o a)) ++ ((bs a).take j).map (o a)).map (dat K)) B5 ys,
      ⟨(bs a).length, rfl, Nat.zero_le _, Bm, xs, e13, Same.refl _, nD3, atD3, ?_⟩, ?_⟩
    · rw [List.take_zero, List.map_nil, List.append_nil]
      exact MoA.mo (e2.bb.trans e3.bb) hxs
    rintro j k H5 ⟨rfl, le1, B5, ys, e5, sm, nD5, atD5, hys⟩
    by_cases lt1 : j < (bs a).length
    · refine .inr ⟨w1.goes j H5 lt1 (sm.trans e5.bh), fun H6 => ∃ B5 ys, Ext B2 H2 B5 H6 ∧ Same Bm B5 ∧ B5 D = none ∧ H6 D = some (.lst ys) ∧ AllR ((((as.take i).flatMap fun a => (bs a).map (o a)) ++ ((bs a).take (j + 1)).map (o a)).map (dat K)) B5 ys,
        fun H6 h => ⟨(bs a).length - (j + 1), by omega, rfl, lt1, h⟩, fun x' H6 y' => ?_⟩
      obtain ⟨R', hR', y'⟩ := w1.yields j H5 x' H6 lt1 (sm.trans e5.bh) y'
      obtain ⟨B6, e6, hx'⟩ := y' B5 sm e5.bh
      rw [List.getElem?_map] at hR'
      obtain ⟨b, hb, rfl⟩ := Option.map_eq_some_iff.mp hR'
      obtain ⟨σ3, u1, u2, u3⟩ := t4 b x' B6 H6 (List.mem_of_getElem? hb) ((e3.bb.trans sm).trans e6.bb) e6.bh hx'
      obtain ⟨atD6, nD6⟩ := stays e6 atD5 nD5
      refine u1 _ ⟨u2, ?_⟩
      show te σ3 H6 _
      refine u3 B6 H6 (Same.refl _) e6.bh _ fun y7 B7 H7 e7 hy7 => ?_
      obtain ⟨atD7, nD7⟩ := stays e7 atD6 nD6
      have len := allR_len hys
      rw [List.length_map, List.length_append, List.length_map, List.length_take] at len
      have tk1 : (bs a).take (j + 1) = (bs a).take j ++ [b] := by rw [List.take_succ, hb]; rfl
      refine ⟨ys, atD7, by omega, B7, ys ++ [y7], grown hD ((e5.trans e6).trans e7) nD7, (sm.trans e6.bb).trans e7.bb, nD7, upd_same, ?_⟩
      have eq : ((as.take i).flatMap fun a => (bs a).map (o a)) ++ ((bs a).take (j + 1)).map (o a) = (((as.take i).flatMap fun a => (bs a).map (o a)) ++ ((bs a).take j).map (o a)) ++ [o a b] := by
        rw [tk1, List.map_append, ← List.append_assoc]
        rfl
      rw [eq, List.map_append (l₂ := [o a b])]
      exact allR_snoc (MoA.mo (e6.bb.trans e7.bb) hys) hy7
    · have : j = (bs a).length := by omega
      subst this
      refine .inl ⟨w1.stops H5 (sm.trans e5.bh), B5, ys, e5, nD5, atD5, ?_⟩
      rw [List.take_length] at hys
      rw [tk, List.flatMap_append, e1f]
      exact hys
  · have : i = as.length := by omega
    subst this
    refine .inl ⟨w.stops H' (e'.bb.trans e'.bh), ?_⟩
    rw [List.take_length] at hxs
    refine q (.ref D) (upd B' D (.lst xs)) H' ⟨e.hh.trans e'.hh, (e.bb.trans e'.bb).trans (new_same nD), fun b u hb => ?_, fun b h1 h2 => ?_⟩ (lstR_dat ⟨D, xs, rfl, SqL.of upd_same, MoA.mo (new_same nD) hxs⟩)
    · by_cases z : b = D
      · subst z
        rw [upd_same] at hb
        cases hb
        exact atD
      · rw [upd_ne z] at hb
        exact e'.bh b u hb
    · have z : b ≠ D := by
        rintro rfl
        cases w : H b with
        | none => exact h1 w
        | some u =>
          rw [e.hh b u w] at hD
          cases hD
      rw [upd_ne z]
      exact (e.trans e').nw b h1 h2
/-- walks over data that stands for things -/
theorem Di.conv {wi : TI} {Ss : List Rel} (h : Di wi σ B Rs) (e : Rs = Ss) : Di wi σ B Ss := e ▸ h
theorem Di.listM {α : Type} {as : List α} {f : α → PyData} (h : De tl σ B (dat K (.list (as.map f)))) : Di (iList K tl) σ B (as.map fun a => dat K (f a)) := (Di.listD h).conv (by rw [List.map_map]; rfl)
theorem Di.tupM {α : Type} {as : List α} {f : α → PyData} (h : De tl σ B (dat K (.tuple (as.map f)))) : Di (iTup K tl) σ B (as.map fun a => dat K (f a)) := (Di.tupD h).conv (by rw [List.map_map]; rfl)
theorem rangeI {lo : Int} {n : Nat} : intsR K lo n = (List.range n).map fun i : Nat => dat K (.int (lo + (i : Int))) := rfl
theorem Di.rng {ta : TE} {n : Nat} (h : De ta σ B (dat K (.int (n : Int)))) (h1 : n < 2 ^ 62) : Di (iRng1 (tCons ta tNil)) σ B ((List.range n).map fun i : Nat => dat K (.int (i : Int))) := by
  have := Di.rng1 (K := K) (Da.one h) (by omega) (by omega)
  refine this.conv ?_
  unfold intsR
  have e : ((n : Int)).toNat = n := by omega
  rw [e]
  exact List.map_congr_left fun i _ => by rw [Int.zero_add]
/-- data, one after another -/
def Dd (K : PySem.W.Frag) (ta : TA) (σ : L2.St) (B : Hp) (ds : List PyData) : Prop := Da ta σ B (ds.map (dat K))
theorem Dd.nil : Dd K tNil σ B [] := Da.nil
theorem Dd.cons {tr : TA} {d : PyData} {ds : List PyData} (h : De ta σ B (dat K d)) (t : Dd K tr σ B ds) : Dd K (tCons ta tr) σ B (d :: ds) := Da.cons h t
theorem De.tupD {ta : TA} {ds : List PyData} (h : Dd K ta σ B ds) (hz : ds.length ≤ sizeLine) : De (tTup ta) σ B (dat K (.tuple ds)) := (De.tup h (by rw [List.length_map]; exact hz)).conv fun _ _ => tupR_dat
theorem De.lstD {ta : TA} {ds : List PyData} (h : Dd K ta σ B ds) (hz : ds.length ≤ sizeLine) : De (tLst ta) σ B (dat K (.list ds)) := (De.lst h (by rw [List.length_map]; exact hz)).conv fun _ _ => lstR_dat
/-- tuple(list), tuple(tuple), list(..) -/
theorem De.tupleL {ta : TE} {ds : List PyData} (h : De ta σ B (dat K (.list ds))) : De (tCB (fun xs H Q => ∃ p ys, xs = [.ref p] ∧ ((SqL K H p ys ∧ ∀ l, H l = none → Q (.ref l) (upd H l (.tup ys))) ∨ (SqT K H p ys ∧ Q (.ref p) H))) (tCons ta tNil)) σ B (dat K (.tuple ds)) :=
  (De.cb (.cons (h.conv fun _ _ => dat_lstR) .nil) rc_tupL).conv fun _ _ => tupR_dat
theorem De.tupleT {ta : TE} {ds : List PyData} (h : De ta σ B (dat K (.tuple ds))) : De (tCB (fun xs H Q => ∃ p ys, xs = [.ref p] ∧ ((SqL K H p ys ∧ ∀ l, H l = none → Q (.ref l) (upd H l (.tup ys))) ∨ (SqT K H p ys ∧ Q (.ref p) H))) (tCons ta tNil)) σ B (dat K (.tuple ds)) :=
  (De.cb (.cons (h.conv fun _ _ => dat_tupR) .nil) rc_tupT).conv fun _ _ => tupR_dat
theorem De.listL {ta : TE} {ds : List PyData} (h : De ta σ B (dat K (.list ds))) : De (tCB (fun xs H Q => ∃ p ys, xs = [.ref p] ∧ (SqL K H p ys ∨ SqT K H p ys) ∧ ∀ l, H l = none → Q (.ref l) (upd H l (.lst ys))) (tCons ta tNil)) σ B (dat K (.list ds)) :=
  (De.cb (.cons (h.conv fun _ _ => dat_lstR) .nil) rc_lstL).conv fun _ _ => lstR_dat
theorem De.listT {ta : TE} {ds : List PyData} (h : De ta σ B (dat K (.tuple ds))) : De (tCB (fun xs H Q => ∃ p ys, xs = [.ref p] ∧ (SqL K H p ys ∨ SqT K H p ys) ∧ ∀ l, H l = none → Q (.ref l) (upd H l (.lst ys))) (tCons ta tNil)) σ B (dat K (.list ds)) :=
  (De.cb (.cons (h.conv fun _ _ => dat_tupR) .nil) rc_lstT).conv fun _ _ => lstR_dat
theorem De.lenL {ta : TE} {ds : List PyData} (h : De ta σ B (dat K (.list ds))) : De (tCB (fun xs H Q => ∃ x n, xs = [x] ∧ LenV K x H n ∧ Q (.int n) H) (tCons ta tNil)) σ B (dat K (.int (ds.length : Int))) := .cb (.one h) rc_len
theorem De.lenT {ta : TE} {ds : List PyData} (h : De ta σ B (dat K (.tuple ds))) : De (tCB (fun xs H Q => ∃ x n, xs = [x] ∧ LenV K x H n ∧ Q (.int n) H) (tCons ta tNil)) σ B (dat K (.int (ds.length : Int))) := .cb (.one h) rc_lenT
theorem De.sorted {ta : TE} {ds : List PyData} (h : De ta σ B (dat K (.list ds))) (hal : PySem.W.AllAlike ds) (hk : PySem.W.SortOk ds) (hd : ∀ d ∈ ds, d.depth ≤ 60) : De (tCB (rSortedD K) (tCons ta tNil)) σ B (dat K (.list (sortD ds))) := .cb (.one h) (rc_sorted hal hk hd)
theorem De.show {ta : TE} {d : PyData} (h : De ta σ B (dat K d)) (hs : Shw d) : De (tCB (rShow K) (tCons ta tNil)) σ B (dat K (.str d.shown)) := .cb (.one h) (rc_show hs)
theorem De.listRg {ta : TE} {n : Nat} (h : De ta σ B (dat K (.int (n : Int)))) (h1 : n ≤ 1000000) : De (tLstRg (tRg1 ta)) σ B (dat K (.list ((List.range n).map fun i : Nat => .int (i : Int)))) := fun B1 H s1 s2 Q q => h B1 H s1 s2 _ fun v B2 H2 e hv => by
  have hv := dat_int hv
  subst hv
  refine ⟨n, rfl, RgOk.of_le (Int.le_refl 0) (by omega) (by decide) (by omega), fun p hp => ?_⟩
  have ev : rgV 0 (n : Int) = ((List.range n).map fun i : Nat => V.int (i : Int)) := by
    unfold rgV
    have e : ((n : Int) - 0).toNat = n := by omega
    rw [e]
    exact List.map_congr_left fun i _ => by rw [Int.zero_add]
  rw [ev]
  refine q _ (upd B2 p (.lst ((List.range n).map fun i : Nat => V.int (i : Int)))) _ (e.trans (.new e.bh hp)) ?_
  refine Dp.lst (SqL.of upd_same) ?_
  have : ∀ l : List Nat, DpAll K (upd B2 p (.lst ((List.range n).map fun i : Nat => V.int (i : Int)))) (l.map fun i : Nat => V.int (i : Int)) (l.map fun i : Nat => PyData.int (i : Int)) := by
    intro l
    induction l with
    | nil => exact .nil
    | cons i l ih => exact .cons (.int _) ih
  exact this _
theorem Rv.catS {xs ys : List PyData} (hz : xs.length + ys.length ≤ sizeLine) : Rv (rCatS K) B (dat K (.list xs)) (dat K (.list ys)) (dat K (.list (xs ++ ys))) := fun x y B1 H _ s2 hx hy Q q => by
  obtain ⟨a, us, rfl, h, g⟩ := dat_lstR hx
  obtain ⟨b, ws, rfl, h', g'⟩ := dat_lstR hy
  have l1 := allR_len g
  have l2 := allR_len g'
  rw [List.length_map] at l1 l2
  refine ⟨a, b, us, ws, rfl, rfl, s2.seq h, s2.seq h', by omega, fun p hp => ?_⟩
  refine q _ (upd B1 p (.lst (us ++ ws))) _ (.new s2 hp) ?_
  have s := new_same (o := .lst (us ++ ws)) (s2.free hp)
  exact .lst (SqL.of upd_same) (dpMonoAll s _ _ (allR_dp (by rw [List.map_append]; exact allR_app g g')))
theorem Rv.inT {d : PyData} {ds : List PyData} (hd : SeqAt.shaped d = true) (he : SeqAt.shaped (.tuple ds) = true) : Rv (rInT K false) B (dat K d) (dat K (.tuple ds)) (dat K (.bool (ds.any fun z => PyData.eqv z d))) := fun x y B1 H _ s2 hx hy Q q =>
  ⟨d, ds, dpMono s2 _ _ hx, dpMono s2 _ _ hy, hd, he, q _ B1 H (.refl s2) (Dp.bl _)⟩
theorem Rv.notInT {d : PyData} {ds : List PyData} (hd : SeqAt.shaped d = true) (he : SeqAt.shaped (.tuple ds) = true) : Rv (rInT K true) B (dat K d) (dat K (.tuple ds)) (dat K (.bool (!ds.any fun z => PyData.eqv z d))) := fun x y B1 H _ s2 hx hy Q q =>
  ⟨d, ds, dpMono s2 _ _ hx, dpMono s2 _ _ hy, hd, he, q _ B1 H (.refl s2) (Dp.bl _)⟩
theorem Rv.eqI {i j : Int} : Rv rEq B (dat K (.int i)) (dat K (.int j)) (dat K (.bool (decide (i = j)))) := fun x y B1 H _ s2 hx hy Q q => by
  have hx := dat_int hx
  have hy := dat_int hy
  subst hx hy
  have e : decide (V.int i = V.int j) = decide (i = j) := by simp
  refine ⟨rfl, ?_⟩
  rw [e]
  exact q _ B1 H (.refl s2) (Dp.bl _)
theorem Rv.neI {i j : Int} : Rv rNe B (dat K (.int i)) (dat K (.int j)) (dat K (.bool (!decide (i = j)))) := fun x y B1 H _ s2 hx hy Q q => by
  have hx := dat_int hx
  have hy := dat_int hy
  subst hx hy
  have e : decide (V.int i = V.int j) = decide (i = j) := by simp
  refine ⟨rfl, ?_⟩
  rw [e]
  exact q _ B1 H (.refl s2) (Dp.bl _)
theorem Rv.eqS {i j : Str} : Rv rEq B (dat K (.str i)) (dat K (.str j)) (dat K (.bool (decide (i = j)))) := fun x y B1 H _ s2 hx hy Q q => by
  have hx := dat_str hx
  have hy := dat_str hy
  subst hx hy
  have e : decide (V.str i = V.str j) = decide (i = j) := by simp
  refine ⟨rfl, ?_⟩
  rw [e]
  exact q _ B1 H (.refl s2) (Dp.bl _)
theorem Rv.neS {i j : Str} : Rv rNe B (dat K (.str i)) (dat K (.str j)) (dat K (.bool (!decide (i = j)))) := fun x y B1 H _ s2 hx hy Q q => by
  have hx := dat_str hx
  have hy := dat_str hy
  subst hx hy
  have e : decide (V.str i = V.str j) = decide (i = j) := by simp
  refine ⟨rfl, ?_⟩
  rw [e]
  exact q _ B1 H (.refl s2) (Dp.bl _)
end
section
variable (P : Program) (w : World) (K : PySem.W.Frag) (mg : Str → Option Value) (base : Heap)
/-- a class of objects that keep their arguments -/
structure CalC (x : Str) (C : Addr) (fs : List Str) : Prop where
  c : Cls K C
  g : mg x = some (.ref C)
  na : ∀ f ∈ fs, NoAttr K C f
  ini : ∃ (f : Addr) (fd : FuncData), Mk K C f ∧ FnOk P w K mg base CX0 1 f fd ("self" :: fs) (spIns C fs) ∧ Binds K fd ("self" :: fs) []
end
section
variable {X : Cx} {x : Str} {C : Addr} {fs : List Str} {k : Nat} {p pos : Pos} {e : Expr} {es : List Expr} {t : TA}
theorem pe_calC (c : CalC X.prog X.w X.K X.mg X.base x C fs) (hr : Room k X.A) (hk : 2 ≤ k) (hg : Gl X x) (ha : PA X (e :: es) t) (hdb : (x == ("__debug__" : Str)) = false := by decide)
    (he : starEach (e :: es) X.env = (false, eval e X.env) :: starEach es X.env := by rfl) (hpl : (backTo pos (starEach es X.env)).any (·.1) = false := by rfl) : PE X (.Call (.Name x p) (e :: es) [] pos) (tMake C (spIns C fs) [] E0 t) := by
  obtain ⟨f, fd, M, F, b⟩ := c.ini
  exact pe_make M F (hr.mono hk) hg c.g b .nil pass0 ha hdb he hpl
end
end Wv

set_option Elab.async false
set_option linter.all false
set_option maxRecDepth 100000
set_option maxHeartbeats 4000000
/-! Wv3: enumerate of a tuple, zip of tuples; promises by their arguments. -/
namespace Wb
open PySem PySem.Spec PyProof.Rows L2
/-- the tuple at a, each item in a new pair with its number -/
def IteT (K : PySem.W.Frag) (a : Addr) : It :=
  ⟨fun i H => ∃ (xs : List V) (x : V), SqT K H a xs ∧ xs[i]? = some x, fun i H v H' => ∃ T x, v = .ref T ∧ H T = none ∧ H' = upd H T (.tup [.int (i : Nat), x]) ∧ ∀ xs, SqT K H a xs → xs[i]? = some x, fun i H => ∃ xs : List V, SqT K H a xs ∧ xs.length ≤ i⟩
theorem two_mem {α : Type} {b x y : α} (h : b ∈ [x, y]) : b = x ∨ b = y := by simpa using h
theorem apart_tup {h : Heap} {it a : Addr} {i : Nat} {xs : Array Value} (h1 : h.IsTupleIter it a i) (h2 : h.IsTuple a xs) : a ≠ it := by
  rintro rfl
  obtain ⟨o, e, c, _⟩ := h1
  obtain ⟨o', e', c', _⟩ := h2
  rw [e] at e'
  cases e'
  rw [c] at c'
  exact absurd c' (by decide)
theorem turn_enumT {P : Program} {w : World} {K : PySem.W.Frag} {elts : List Expr} {kk : Nat} {tpos : Pos} (a e it : Addr) :
    Turn P w K (.Tuple elts kk tpos) (IteT K a) [e, it] e (fun i h => (∃ old, IsEnum h e it ((i : Nat) : Int) old) ∧ h.IsTupleIter it a i ∧ e ≠ it ∧ e ≠ a) where
  mem := by simp
  obj := fun i h st b hb => by
    obtain ⟨⟨old, he⟩, ⟨o, ho, hc, hd⟩, _⟩ := st
    rcases two_mem hb with z | z <;> subst z
    · exact ⟨_, he, fun v q => nomatch q⟩
    · exact ⟨o, ho, fun v q => by rw [hd] at q; cases q⟩
  keep := fun i h h' ⟨⟨old, he⟩, hi, hne⟩ k => ⟨⟨old, k e (by simp) _ he⟩, hi.at fun o q => k it (by simp) o q, hne⟩
  item := by
    intro X hP hw hK hc i pins s σ H E I hf ⟨⟨old, he⟩, hit, hne, hea⟩ ⟨xs, x, hq, hx⟩
    subst hP hw hK
    obtain ⟨its, rv, p, hz⟩ := I.tuple hq
    obtain ⟨u, hu, ru⟩ := rv.get hx
    have lt : ∀ b ∈ [e, it], b < s.heap.objs.size := fun b hb => by
      rcases two_mem hb with z | z <;> subst z
      · exact Heap.lt_size he
      · obtain ⟨_, q, _⟩ := hit
        exact Heap.lt_size q
    have hel := lt e (by simp)
    have hi : i < its.toArray.size := by
      have := List.getElem?_eq_some_iff.mp hu
      simpa using this.1
    refine wpAny_pyNext_enum_itemD (Draws.tuple (A := X.A.in1) (show X.A.in1.handled = none from I.ok.hd hc) it a (apart_tup hit p) its.toArray) he ⟨hit, p⟩ hi hne (by simp [hne, hea]) fun y h1 tk hy ho hst hT hsz hk => ?_
    have hy : its[i]? = some y := by simpa using hy
    rw [hu] at hy
    cases hy
    refine ⟨_, rfl, wpAny_letOwnedTupleGo_enum (s := { s with heap := h1, toks := tk + 1 }) ho fun h2 he' sb => ?_⟩
    have hT2 := (sb.2 _ (Nat.ne_of_gt hel)).trans hT
    refine ⟨.ref s.heap.objs.size, _, I.turnedNew (t' := tk + 1) (ch := [e, it]) (ob := .tup [.int (i : Nat), x]) (fun b ob hb q => (sb.2 b (fun z => hb (by simp [z]))).trans (hk b ob (fun z => hb (by simp [z])) (fun z => hb (by simp [z])) q)) hf (Nat.le_refl _)
      ⟨by show 2 ≤ sizeLine; decide, [.int i tk, u], .cons ⟨_, rfl⟩ (.cons ru .nil), ⟨_, hT2, rfl, _, rfl⟩⟩, rfl, ⟨_, x, rfl, I.hok.fresh (Nat.le_refl _), rfl, fun ys hy => by rw [I.tuple_inj hy hq]; exact hx⟩, ⟨⟨u, ?_⟩, hst.1.at fun o q => (sb.2 it (Ne.symm hne)).trans q, hne, hea⟩, fun b hb => ?_⟩
    · rw [show ((i + 1 : Nat) : Int) = (i : Int) + 1 by omega]
      exact he'
    · rw [upd_ne (Nat.ne_of_lt (lt b hb))]
      exact (hf b hb).1
  done := by
    intro X hP hw hK hc i pins s σ H E I hf ⟨⟨old, he⟩, hit, hne, hea⟩ ⟨xs, hq, hx⟩
    subst hP hw hK
    obtain ⟨its, rv, p, hz⟩ := I.tuple hq
    obtain ⟨f0, f1, f2, f3, f4, f5⟩ := hf it (by simp)
    have hl := rv.length
    have hno : its.toArray[i]? = none := by simp; omega
    have hT : s.TypeIs (.ref e) "enumerate" := ⟨_, he, rfl⟩
    unfold pyNext
    refine wpAny_bind (wpAny_attempt (wpAny_callSpecial?_slot (name := Str.ofString "__next__") hT F.slot_enumerate_next
      (wpAny_call_entry F.slot_enumerate_next hT F.entry_enumerate_next ?_ (F.args_enumerate_next_1 _))))
    show wpAny _ _ (field (.ref e) 2 >>= _) _ _ _
    refine wpAny_bind (wpAny_field he rfl (x := .ref it) rfl ?_)
    refine wpAny_bind (RZ.nextOf_tuple_end (I.ok.hd hc) hit p hno fun h' x he' ⟨o, ho, hc'⟩ => ?_)
    refine wpAny_bind (wpAny_isInstance (T := "StopIteration") (b := true) ⟨o, ho, hc'⟩ isSubtype_stop ?_)
    exact wpAny_pure ⟨rfl, I.turned (t' := s.toks) (fun b o hb q => he' b o hb q) f0 f1 f3 f4 f5⟩
  self := fun A i s Q E ⟨⟨_, he⟩, _⟩ h => wpAny_pyIter_enum he h
set_option maxHeartbeats 8000000 in
theorem meets_enumB1 {v : Value} {o : Obj} {H : Heap → Prop} (B : Begins v o H) :
    Meets (Builtin.«enumerate.__new__» ⟨[.type "enumerate", v], []⟩) (fun _ R s => H s.heap ∧
      R (.ok (.ret (.ref (s.heap.push o).objs.size))) { s with heap := (s.heap.push o).push { cls := .type "enumerate", data := .fields #[.none, .bool false, .ref s.heap.objs.size, rawInt 0, .none, .none] } }) :=
  .of_wp fun prog w A R ⟨hp, g, d, tk, os⟩ ⟨h1, h⟩ => by
    have hsub := sub_enumerate
    have q1 : ∀ {A' : Around} {E : Value → Shared → Prop} {Q : Value → Shared → Prop}, Q (.ref hp.objs.size) ⟨hp.push o, g, d, tk, os⟩ → wpAny (model prog w) A' (pyIter v) Q E ⟨hp, g, d, tk, os⟩ :=
      fun q => B.iter prog w _ _ ⟨hp, g, d, tk, os⟩ _ h1 q
    wp_walk using q1
    refine wpAny_stack_any fun st => wpAny_pure ?_
    split
    · rename_i c _ _ _ _ _
      cases (c == Value.type "enumerate") <;> (wp_walk using q1; exact ⟨_, rfl, h⟩)
    · wp_walk using q1
      exact ⟨_, rfl, h⟩
def iEnumT (K : PySem.W.Frag) (ta : TA) : TI := fun σ H R => ta σ H fun vs H1 => ∃ a xs, vs = [.ref a] ∧ SqT K H1 a xs ∧ R (IteT K a) H1
theorem pi_enumT {X : Cx} {e : Expr} {ta : TA} {p pos tpos : Pos} {elts : List Expr} {kk : Nat} (hg : Gl X "enumerate") (hm : X.mg "enumerate" = none) (ha : PA X [e] ta) (hs : starEach [e] X.env = [(false, eval e X.env)] := by rfl) :
    PI X (.Tuple elts kk tpos) (.Call (.Name "enumerate" p) [e] [] pos) (iEnumT X.K ta) := by
  refine ⟨fun pins s σ H R I h => ?_⟩
  refine Call_ (ld_blt I hg hm boot_enumerate (PyProof.Rows.callWith_type1 (thn (ha.run pos pins s σ H _ I h) fun us s1 ⟨vs, H1, I1, r1, q1⟩ => ?_) hs rfl))
  obtain ⟨a, xs, rfl, hq, q⟩ := q1
  obtain ⟨u, rfl, ru⟩ := vals1 r1
  obtain rfl : u = Value.ref a := ru
  obtain ⟨its, rv, p', hz⟩ := I1.tuple hq
  have hT : s1.heap.IsTuple a its.toArray := p'
  refine callType_new F.called_enumerate (by decide) (F.typeCall_enumerate_1 _) (F.newCall_enumerate_1 _) (fun obj => F.args_object_init_2 obj _) F.entry_enumerate_new (meets_enumB1 (begins_tuple a its.toArray)) ⟨hT, ?_⟩
  have sz : (s1.heap.push { cls := .type "tuple_iterator", data := .fields #[.ref a, .int 0 0] }).objs.size = s1.heap.objs.size + 1 := Heap.size_push ..
  have he : IsEnum ((s1.heap.push { cls := .type "tuple_iterator", data := .fields #[.ref a, .int 0 0] }).push { cls := .type "enumerate", data := .fields #[.none, .bool false, .ref s1.heap.objs.size, rawInt 0, .none, .none] }) (s1.heap.objs.size + 1) s1.heap.objs.size 0 .none := by
    have := Heap.get?_push_size (s1.heap.push { cls := .type "tuple_iterator", data := .fields #[.ref a, .int 0 0] }) (o := { cls := .type "enumerate", data := .fields #[.none, .bool false, .ref s1.heap.objs.size, rawInt 0, .none, .none] }) rfl
    rw [sz] at this
    exact this
  show _ ∧ _
  rw [sz]
  refine ⟨⟨_, he, rfl⟩, wpAny_pyIter_enum (s := { s1 with heap := _ }) he ?_⟩
  have la : a < s1.heap.objs.size := by
    obtain ⟨o, ho, _⟩ := hT
    exact Heap.lt_size ho
  refine ⟨s1.heap.objs.size + 1, [s1.heap.objs.size + 1, s1.heap.objs.size], _, _, H1, rfl, I1.kept (t' := s1.toks) fun b ob q => Heap.get?_push_of_some _ (Heap.get?_push_of_some _ q), turn_enumT a (s1.heap.objs.size + 1) s1.heap.objs.size,
    ⟨⟨.none, he⟩, ⟨_, Heap.get?_push_of_some _ (Heap.get?_push_size _ rfl), rfl, rfl⟩, Nat.succ_ne_self _, Nat.ne_of_gt (Nat.lt_succ_of_lt la)⟩, fun b hb => ?_, q⟩
  have le : s1.heap.objs.size ≤ b := by
    rcases two_mem hb with z | z <;> subst z
    · exact Nat.le_succ _
    · exact Nat.le_refl _
  exact I1.fpOk le (I1.hok.fresh le)
theorem walk_enumT {K : PySem.W.Frag} {a : Addr} {xs : List V} : Walk (IteT K a) xs.length (fun H => SqT K H a xs) (YPair (fun i => some (.int (i : Nat))) (fun i => xs[i]?)) :=
  ⟨fun i _ hi q => ⟨xs, xs[i], q, List.getElem?_eq_getElem hi⟩, fun _ q => ⟨xs, q, Nat.le_refl _⟩, fun i H v H' _ q ⟨T, x, h1, h2, h3, h4⟩ => ⟨T, .int (i : Nat), x, h1, h2, h3, rfl, h4 xs q⟩⟩
theorem walk_zipT {K : PySem.W.Frag} {a b : Addr} {xs ys : List V} {n : Nat} (hn : n = min xs.length ys.length) : Walk (RZ.ItzT K a b) n (fun H => SqT K H a xs ∧ SqT K H b ys) (YPair (fun i => xs[i]?) (fun i => ys[i]?)) :=
  ⟨fun i _ hi q => ⟨xs, ys, xs[i]'(by omega), ys[i]'(by omega), q.1, q.2, List.getElem?_eq_getElem _, List.getElem?_eq_getElem _⟩, fun _ q => ⟨xs, ys, q.1, q.2, by omega⟩, fun i H v H' _ q ⟨T, x, z, h1, h2, h3, h4, h5⟩ => ⟨T, x, z, h1, h2, h3, h4 xs q.1, h5 ys q.2⟩⟩
/-- a list or a tuple, walked -/
def iSeq (K : PySem.W.Frag) (tl : TE) : TI := fun σ H R => tl σ H fun x H1 => ∃ a, x = .ref a ∧ ((∃ xs, SqL K H1 a xs) ∧ R (Itl K a) H1 ∨ (∃ xs, SqT K H1 a xs) ∧ R (Itt K a) H1)
theorem pi_seq {X : Cx} {tg l : Expr} {tl : TE} (hl : PE X l tl) : PI X tg l (iSeq X.K tl) := by
  refine ⟨fun pins s σ H R I h => thn (hl.run pins s σ H _ I h) fun v s1 ⟨x, H1, I1, r1, a, e, q⟩ => ?_⟩
  subst e
  cases r1
  have new : ∀ b ∈ [s1.heap.objs.size], FpOk X pins H1 b := fun b hb => by
    rw [List.mem_singleton.mp hb]
    exact I1.fpOk (Nat.le_refl _) (I1.hok.fresh (Nat.le_refl _))
  rcases q with ⟨⟨xs, hq⟩, q⟩ | ⟨⟨xs, hq⟩, q⟩
  · obtain ⟨its, rv, p, hz⟩ := I1.list hq
    exact wpAny_pyIter_list p.isList ⟨s1.heap.objs.size, _, _, _, H1, rfl, I1.kept (t' := s1.toks) fun b o e => Heap.get?_push_of_some _ e, turn_list a _, ⟨_, Heap.get?_push_size _ rfl, rfl, rfl⟩, new, q⟩
  · obtain ⟨its, rv, p, hz⟩ := I1.tuple hq
    exact wpAny_pyIter_tuple (show s1.heap.IsTuple a its.toArray from p) ⟨s1.heap.objs.size, _, _, _, H1, rfl, I1.kept (t' := s1.toks) fun b o e => Heap.get?_push_of_some _ e, turn_tuple a _, ⟨_, Heap.get?_push_size _ rfl, rfl, rfl⟩, new, q⟩
end Wb
namespace Wv
open PySem PySem.Spec PyProof.Rows L2 Wb
section
variable {K : PySem.W.Frag} {σ : L2.St} {B B' : Hp} {ta tb te tl : TE} {tt tu : TT} {R S T U : Rel} {Rs : List Rel} {x v : V}
theorem Di.zipT {ta : TA} {Ss : List Rel} [m : MoA Rs] [m' : MoA Ss] (hm : ∀ R ∈ Rs, Mo R) (hm' : ∀ R ∈ Ss, Mo R) (h : Da ta σ B [tupR K Rs, tupR K Ss]) : Di (RZ.iZipA K ta) σ B ((Rs.zip Ss).map fun p => tupR K [p.1, p.2]) := fun B1 H s1 s2 Q q => h B1 H s1 s2 _ fun vs B2 H2 e hv => by
  obtain ⟨v, r, rfl, ⟨a, xs, rfl, hs, hR⟩, v', r', rfl, ⟨b, ys, rfl, hs', hR'⟩, h5⟩ := hv
  have h5 : r' = [] := h5
  subst h5
  refine ⟨a, b, xs, ys, rfl, .inr ⟨seqT e.bh hs, seqT e.bh hs', q _ B2 H2 e ?_⟩⟩
  have len := allR_len hR
  have len' := allR_len hR'
  unfold Wk
  rw [List.length_map]
  refine (walk_zipT (K := K) (a := a) (b := b) (xs := xs) (ys := ys) (n := (Rs.zip Ss).length) (by rw [List.length_zip, len, len'])).mono (fun H' s => ⟨seqT s hs, seqT s hs'⟩) fun i H' x H'' hi s y => ?_
  obtain ⟨p, u, w, rfl, hp, rfl, hu, hw⟩ := y
  have hu : xs[i]? = some u := hu
  have hw : ys[i]? = some w := hw
  obtain ⟨R, hR1, _⟩ := allR_at hR hu
  obtain ⟨S, hS1, _⟩ := allR_at hR' hw
  refine ⟨tupR K [R, S], ?_, fun Bc sc sh => ?_⟩
  · rw [List.getElem?_map, List.getElem?_zip_eq_some (z := (R, S)) |>.mpr ⟨hR1, hS1⟩]
    rfl
  · have := hm R (List.mem_of_getElem? hR1)
    have := hm' S (List.mem_of_getElem? hS1)
    obtain ⟨v1, hv1, q1⟩ := allR_of (m.mo sc hR) hR1
    obtain ⟨v2, hv2, q2⟩ := allR_of (m'.mo sc hR') hS1
    rw [hu] at hv1
    rw [hw] at hv2
    cases hv1
    cases hv2
    exact pair_new sh hp q1 q2
theorem Di.enumT {ta : TA} [m : MoA Rs] (hm : ∀ R ∈ Rs, Mo R) (h : Da ta σ B [tupR K Rs]) : Di (iEnumT K ta) σ B (Rs.zipIdx.map fun p => tupR K [dat K (.int (p.2 : Int)), p.1]) := fun B1 H s1 s2 Q q => h B1 H s1 s2 _ fun vs B2 H2 e hv => by
  obtain ⟨v, r, rfl, ⟨a, xs, rfl, hs, hR⟩, h5⟩ := hv
  have h5 : r = [] := h5
  subst h5
  refine ⟨a, xs, rfl, seqT e.bh hs, q _ B2 H2 e ?_⟩
  have len := allR_len hR
  unfold Wk
  rw [List.length_map, List.length_zipIdx, ← len]
  refine (walk_enumT (K := K) (a := a) (xs := xs)).mono (fun H' s => seqT s hs) fun i H' x H'' hi s y => ?_
  obtain ⟨p, u, w, rfl, hp, rfl, hu, hw⟩ := y
  cases hu
  have hw : xs[i]? = some w := hw
  obtain ⟨R, hR1, _⟩ := allR_at hR hw
  refine ⟨tupR K [dat K (.int (i : Int)), R], ?_, fun Bc sc sh => ?_⟩
  · rw [List.getElem?_map, List.getElem?_zipIdx, hR1]
    simp
  · have := hm R (List.mem_of_getElem? hR1)
    obtain ⟨v1, hv1, q1⟩ := allR_of (m.mo sc hR) hR1
    rw [hw] at hv1
    cases hv1
    exact pair_new sh hp (Dp.int _) q1
/-- of data that stands for things -/
theorem mo_dats {α : Type} {as : List α} {f : α → PyData} : ∀ R ∈ as.map (fun a => dat K (f a)), Mo R := fun R h => by
  obtain ⟨a, _, rfl⟩ := List.mem_map.mp h
  exact inferInstance
theorem mos_dats {α : Type} {as : List α} {f : α → PyData} : MoA (as.map fun a => dat K (f a)) := moA_of mo_dats
theorem dat_tupM {α : Type} {as : List α} {f : α → PyData} {B : Hp} {v : V} (h : dat K (.tuple (as.map f)) B v) : tupR K (as.map fun a => dat K (f a)) B v := by
  have := dat_tupR h
  rw [List.map_map] at this
  exact this
theorem Di.zipTM {α β : Type} {as : List α} {bs : List β} {f : α → PyData} {g : β → PyData} {ta tb : TE} (h : De ta σ B (dat K (.tuple (as.map f)))) (h2 : De tb σ B (dat K (.tuple (bs.map g)))) :
    Di (RZ.iZipA K (tCons ta (tCons tb tNil))) σ B ((as.zip bs).map fun p => tupR K [dat K (f p.1), dat K (g p.2)]) := by
  have : MoA (as.map fun a => dat K (f a)) := mos_dats
  have : MoA (bs.map fun a => dat K (g a)) := mos_dats
  have i1 : Mo (tupR K (as.map fun a => dat K (f a))) := inferInstance
  have := Di.zipT (K := K) (Rs := as.map fun a => dat K (f a)) (Ss := bs.map fun a => dat K (g a)) mo_dats mo_dats (.cons (h.conv fun _ _ => dat_tupM) (.cons (h2.conv fun _ _ => dat_tupM) .nil))
  rw [List.zip_map, List.map_map] at this
  exact this
theorem Di.enumTM {α : Type} {as : List α} {f : α → PyData} {ta : TE} (h : De ta σ B (dat K (.tuple (as.map f)))) : Di (iEnumT K (tCons ta tNil)) σ B (as.zipIdx.map fun p => tupR K [dat K (.int (p.2 : Int)), dat K (f p.1)]) := by
  have : MoA (as.map fun a => dat K (f a)) := mos_dats
  have := Di.enumT (K := K) (Rs := as.map fun a => dat K (f a)) mo_dats (.cons (h.conv fun _ _ => dat_tupM) .nil)
  rw [List.zipIdx_map, List.map_map] at this
  exact this
end
/-! ### promises by their arguments -/
section
variable {α : Type} {args : α → List Rel} {R R1 R2 R3 : α → Rel} {pre : α → Prop} {res : α → Rel} {vs : List V} {H : Hp} {Q : VK} {E : XK}
theorem pf_len (h : Pf args pre res vs H Q E) {m : Nat} (n : ∀ a, (args a).length = m) : vs.length = m := by
  obtain ⟨B, a, _, h, _⟩ := h
  rw [allR_len h, n]
theorem pf1 (h : Pf (fun a => [R a]) pre res vs H Q E) : ∃ v B a, vs = [v] ∧ Same B H ∧ R a B v ∧ pre a ∧ ∀ v B' H', Ext B H B' H' → res a B' v → Q v H' := by
  obtain ⟨B, a, s, ⟨v, r, rfl, h1, h⟩, p, k⟩ := h
  have h : r = [] := h
  subst h
  exact ⟨v, B, a, rfl, s, h1, p, k⟩
theorem pf2 (h : Pf (fun a => [R a, R1 a]) pre res vs H Q E) : ∃ v v1 B a, vs = [v, v1] ∧ Same B H ∧ R a B v ∧ R1 a B v1 ∧ pre a ∧ ∀ v B' H', Ext B H B' H' → res a B' v → Q v H' := by
  obtain ⟨B, a, s, ⟨v, r, rfl, h1, v1, r1, rfl, h2, h⟩, p, k⟩ := h
  have h : r1 = [] := h
  subst h
  exact ⟨v, v1, B, a, rfl, s, h1, h2, p, k⟩
theorem pf3 (h : Pf (fun a => [R a, R1 a, R2 a]) pre res vs H Q E) : ∃ v v1 v2 B a, vs = [v, v1, v2] ∧ Same B H ∧ R a B v ∧ R1 a B v1 ∧ R2 a B v2 ∧ pre a ∧ ∀ v B' H', Ext B H B' H' → res a B' v → Q v H' := by
  obtain ⟨B, a, s, ⟨v, r, rfl, h1, v1, r1, rfl, h2, v2, r2, rfl, h3, h⟩, p, k⟩ := h
  have h : r2 = [] := h
  subst h
  exact ⟨v, v1, v2, B, a, rfl, s, h1, h2, h3, p, k⟩
theorem pf4 (h : Pf (fun a => [R a, R1 a, R2 a, R3 a]) pre res vs H Q E) : ∃ v v1 v2 v3 B a, vs = [v, v1, v2, v3] ∧ Same B H ∧ R a B v ∧ R1 a B v1 ∧ R2 a B v2 ∧ R3 a B v3 ∧ pre a ∧ ∀ v B' H', Ext B H B' H' → res a B' v → Q v H' := by
  obtain ⟨B, a, s, ⟨v, r, rfl, h1, v1, r1, rfl, h2, v2, r2, rfl, h3, v3, r3, rfl, h4, h⟩, p, k⟩ := h
  have h : r3 = [] := h
  subst h
  exact ⟨v, v1, v2, v3, B, a, rfl, s, h1, h2, h3, h4, p, k⟩
end
end Wv

set_option Elab.async false
set_option linter.all false
set_option maxRecDepth 100000
set_option maxHeartbeats 4000000
/-! Wv4: statements, by what is evaluated. -/
theorem L2.Room.u65 {k : Nat} {A : PySem.Around} (h : L2.Room k A) : A.units + 65 < PySem.cLine := by
  have := h.un
  omega
namespace Wv
open PySem PySem.Spec PyProof.Rows L2 Wb
section
variable {K : PySem.W.Frag} {σ : L2.St} {B H : Hp} {ta tb te tl : TE} {tt tu : TT} {R S T U : Rel} {Rs : List Rel} {D : Ends} {t u rest : TS} {i j : Nat}
theorem s_set (h : De te σ B R) (hB : Same B H) (k : ∀ v B' H', Ext B H B' H' → R B' v → rest D (σ.set i (some v)) H') : tSeq (tAsg te (gName i)) rest D σ H := h B H (Same.refl _) hB _ k
theorem s_setE (h : De te σ B R) (hB : Same B H) (k : ∀ v B' H', Ext B H B' H' → R B' v → D.nx (σ.set i (some v)) H') : tAsg te (gName i) D σ H := h B H (Same.refl _) hB _ k
theorem s_ret (h : De te σ B R) (hB : Same B H) (k : ∀ v B' H', Ext B H B' H' → R B' v → D.rt v H') : tRet te D σ H := h B H (Same.refl _) hB _ k
theorem s_if {b : Bool} (h : Dt tt σ B b) (hB : Same B H) (k1 : b = true → ∀ B' H', Ext B H B' H' → t D σ H') (k2 : b = false → ∀ B' H', Ext B H B' H' → u D σ H') : tIfS tt t u D σ H := h B H (Same.refl _) hB _ fun B' H' e => by
  cases b with
  | true => exact k1 rfl B' H' e
  | false => exact k2 rfl B' H' e
theorem s_ifS {b : Bool} (h : Dt tt σ B b) (hB : Same B H) (k1 : b = true → ∀ B' H', Ext B H B' H' → t { D with nx := rest D } σ H') (k2 : b = false → ∀ B' H', Ext B H B' H' → u { D with nx := rest D } σ H') : tSeq (tIfS tt t u) rest D σ H := s_if (D := { D with nx := rest D }) h hB k1 k2
/-- a test that is not met: on it goes -/
theorem s_skip (h : Dt tt σ B false) (hB : Same B H) (k : ∀ B' H', Ext B H B' H' → rest D σ H') : tSeq (tIfS tt t tNext) rest D σ H := s_ifS h hB (fun z => nomatch z) fun _ => k
theorem s_par {ta : TA} {S : Rel} (h : Da ta σ B [R, S]) (hB : Same B H) (k : ∀ u v B' H', Ext B H B' H' → R B' u → S B' v → rest D ((σ.set i (some u)).set j (some v)) H') : tSeq (tPar i j ta) rest D σ H := h B H (Same.refl _) hB _ fun vs B' H' e hv => by
  obtain ⟨a, r, rfl, h1, b, r', rfl, h2, h3⟩ := hv
  have h3 : r' = [] := h3
  subst h3
  exact ⟨a, b, rfl, k a b B' H' e h1 h2⟩
theorem Rv.mulS3 {a : Nat} : Rv rMulS B (dat K (.str ⟨#[a]⟩)) (dat K (.int 3)) (dat K (.str (mulS ⟨#[a]⟩ 3))) := fun x y B1 H1 _ s2 hx hy Q q => ⟨_, 3, dat_str hx, dat_int hy, by decide, by decide, Nat.zero_lt_one, by show 1 ≤ 1000; decide, q _ B1 H1 (.refl s2) (.str _)⟩
theorem De.negI {n : Int} (h : De te σ B (dat K (.int n))) : De (tUn (rU fun i => .int (-i)) te) σ B (dat K (.int (-n))) := .un h fun x B1 H1 _ s2 hx Q q => ⟨n, dat_int hx, q _ B1 H1 (.refl s2) (.int _)⟩
theorem Di.seqL {ds : List PyData} (h : De tl σ B (dat K (.list ds))) : Di (iSeq K tl) σ B (ds.map (dat K)) := fun B1 H s1 s2 Q q => h B1 H s1 s2 _ fun v B2 H2 e hv => by
  have q2 := Di.listD (K := K) (De.var (i := 0) (σ := [some v]) hv rfl) B2 H2 (Same.refl _) e.bh Q fun J B3 H3 e3 hw => q J B3 H3 (e.trans e3) hw
  obtain ⟨x, hx, a, ha, hs, r⟩ := q2
  cases hx
  exact ⟨a, ha, .inl ⟨hs, r⟩⟩
theorem Di.seqT {ds : List PyData} (h : De tl σ B (dat K (.tuple ds))) : Di (iSeq K tl) σ B (ds.map (dat K)) := fun B1 H s1 s2 Q q => h B1 H s1 s2 _ fun v B2 H2 e hv => by
  have q2 := Di.tupD (K := K) (De.var (i := 0) (σ := [some v]) hv rfl) B2 H2 (Same.refl _) e.bh Q fun J B3 H3 e3 hw => q J B3 H3 (e.trans e3) hw
  obtain ⟨x, hx, a, ha, hs, r⟩ := q2
  cases hx
  exact ⟨a, ha, .inr ⟨hs, r⟩⟩
abbrev rTup (K : PySem.W.Frag) : List V → Hp → VK → Prop := fun xs H Q => ∃ p ys, xs = [.ref p] ∧ ((SqL K H p ys ∧ ∀ l, H l = none → Q (.ref l) (upd H l (.tup ys))) ∨ (SqT K H p ys ∧ Q (.ref p) H))
abbrev rLst (K : PySem.W.Frag) : List V → Hp → VK → Prop := fun xs H Q => ∃ p ys, xs = [.ref p] ∧ (SqL K H p ys ∨ SqT K H p ys) ∧ ∀ l, H l = none → Q (.ref l) (upd H l (.lst ys))
abbrev rLen (K : PySem.W.Frag) : List V → Hp → VK → Prop := fun xs H Q => ∃ x n, xs = [x] ∧ LenV K x H n ∧ Q (.int n) H
/-- what is wanted behind a turn -/
def Nz (B H : Hp) (P : L2.St → Hp → Prop) : L2.St → Hp → Prop := fun σ H' => ∃ B', Ext B H B' H' ∧ P σ B'
theorem s_forE {wi : TI} {g : TG} {ts : TS} (hi : Di wi σ B Rs) (hB : Same B H) (Pv : Nat → L2.St → Hp → Prop) (h0 : ∀ B', Same B B' → Pv 0 σ B')
    (hs : ∀ B1 H1, Ext B H B1 H1 → ∀ i R v σ' Bc Bn Hn, Rs[i]? = some R → Pv i σ' Bc → Same Bc Bn → Ext B1 H1 Bn Hn → R Bn v → g v σ' Hn fun σ2 H2 => ts { D with nx := Nz B1 H1 (Pv (i + 1)), ct := Nz B1 H1 (Pv (i + 1)), bk := D.nx } σ2 H2)
    (hd : ∀ σ' B' H', Ext B H B' H' → Pv Rs.length σ' B' → D.nx σ' H') : tFor wi g ts D σ H :=
  hi B H (Same.refl _) hB _ fun J B1 H1 e hw => for_it hw (fun i => Nz B1 H1 (Pv i)) ⟨B1, .refl e.bh, h0 B1 e.bb⟩ (fun i σ' H' _ ⟨B', s1, _⟩ => s1.bb.trans s1.bh)
    (fun i x σ' H' H'' hi ⟨Bc, s1, p⟩ ⟨R, hR, y⟩ => by
      obtain ⟨Bn, e2, hx⟩ := y Bc s1.bb s1.bh
      exact hs B1 H1 e i R x σ' Bc Bn H'' hR p e2.bb (s1.trans e2) hx)
    (fun σ' H' ⟨B', s1, p⟩ => hd σ' B' H' (e.trans s1) p)
theorem s_forS {wi : TI} {g : TG} {ts : TS} (hi : Di wi σ B Rs) (hB : Same B H) (Pv : Nat → L2.St → Hp → Prop) (h0 : ∀ B', Same B B' → Pv 0 σ B')
    (hs : ∀ B1 H1, Ext B H B1 H1 → ∀ i R v σ' Bc Bn Hn, Rs[i]? = some R → Pv i σ' Bc → Same Bc Bn → Ext B1 H1 Bn Hn → R Bn v → g v σ' Hn fun σ2 H2 => ts { D with nx := Nz B1 H1 (Pv (i + 1)), ct := Nz B1 H1 (Pv (i + 1)), bk := rest D } σ2 H2)
    (hd : ∀ σ' B' H', Ext B H B' H' → Pv Rs.length σ' B' → rest D σ' H') : tSeq (tFor wi g ts) rest D σ H := s_forE (D := { D with nx := rest D }) hi hB Pv h0 hs hd
end
end Wv

set_option Elab.async false
set_option linter.all false
set_option maxRecDepth 100000
set_option maxHeartbeats 4000000
/-! Wv5: what is evaluated while a deal goes on: a base that leaves the deal's two lists out. -/
namespace Wv
open PySem PySem.Spec PyProof.Rows L2 Wb
/-- the deal at d and c, a base that has neither -/
structure Dl (B H : Hp) (d c : Addr) : Prop where
  deal : Deal H d c
  sub : Same B (off H d c)
theorem Dl.bh {B H : Hp} {d c : Addr} (L : Dl B H d c) : Same B H := L.sub.trans (off_le H d c)
theorem Dl.noD {B H : Hp} {d c : Addr} (L : Dl B H d c) : B d = none := by
  cases h : B d with
  | none => rfl
  | some o => exact absurd rfl (off_some (L.sub _ _ h)).2.1
theorem Dl.noC {B H : Hp} {d c : Addr} (L : Dl B H d c) : B c = none := by
  cases h : B c with
  | none => rfl
  | some o => exact absurd rfl (off_some (L.sub _ _ h)).2.2
theorem Deal.atD {H : Hp} {d c : Addr} (D : Deal H d c) : H d ≠ none ∧ H c ≠ none := by
  obtain ⟨cs, mix, h1, h2, _⟩ := D.ex
  rw [h1, h2]
  exact ⟨Option.some_ne_none _, Option.some_ne_none _⟩
/-- later: the deal may have been drawn from, all else is kept -/
structure ExtD (d c : Addr) (B H B' H' : Hp) : Prop where
  deal : Deal H' d c
  oo : Same (off H d c) (off H' d c)
  bb : Same B B'
  sub : Same B' (off H' d c)
  nw : ∀ b, H b ≠ none → B b = none → B' b = none
theorem ExtD.dl {d c : Addr} {B H B' H' : Hp} (e : ExtD d c B H B' H') : Dl B' H' d c := ⟨e.deal, e.sub⟩
theorem ExtD.bh {d c : Addr} {B H B' H' : Hp} (e : ExtD d c B H B' H') : Same B' H' := e.dl.bh
theorem ExtD.refl {d c : Addr} {B H : Hp} (L : Dl B H d c) : ExtD d c B H B H := ⟨L.deal, Same.refl _, Same.refl _, L.sub, fun _ _ h => h⟩
theorem ExtD.trans {d c : Addr} {B H B1 H1 B2 H2 : Hp} (D : Dl B H d c) (a : ExtD d c B H B1 H1) (b : ExtD d c B1 H1 B2 H2) : ExtD d c B H B2 H2 :=
  ⟨b.deal, a.oo.trans b.oo, a.bb.trans b.bb, b.sub, fun x h1 h2 => by
    refine b.nw x ?_ (a.nw x h1 h2)
    by_cases e1 : x = d
    · rw [e1]
      exact (Deal.atD a.deal).1
    · by_cases e2 : x = c
      · rw [e2]
        exact (Deal.atD a.deal).2
      · cases h : H x with
        | none => exact absurd h h1
        | some o =>
          rw [(off_some (a.oo x o ((off_at e1 e2).trans h))).1]
          exact fun z => nomatch z⟩
theorem ExtD.of {d c : Addr} {B H B' H' : Hp} (L : Dl B H d c) (e : Ext B H B' H') : ExtD d c B H B' H' :=
  ⟨L.deal.same e.hh, off_mono e.hh, e.bb, fun b o h => by
    have at_ := Deal.atD L.deal
    have n1 : b ≠ d := fun z => by rw [z, e.nw d at_.1 L.noD] at h; cases h
    have n2 : b ≠ c := fun z => by rw [z, e.nw c at_.2 L.noC] at h; cases h
    rw [off_at n1 n2]
    exact e.bh b o h, e.nw⟩
theorem ExtD.draw {d c : Addr} {B H H' : Hp} (L : Dl B H d c) (D : Deal H' d c) (S : Same (off H d c) (off H' d c)) : ExtD d c B H B H' := ⟨D, S, Same.refl _, L.sub.trans S, fun _ _ h => h⟩
/-- what is neither of the deal's lists is kept -/
theorem ExtD.keep {d c a : Addr} {o : HO} {B H B' H' : Hp} (e : ExtD d c B H B' H') (h : H a = some o) (n1 : a ≠ d) (n2 : a ≠ c) : H' a = some o := (off_some (e.oo a o ((off_at n1 n2).trans h))).1
theorem deal_upd0 {H : Hp} {d c L : Addr} {o : HO} (D : Deal H d c) (n1 : L ≠ d) (n2 : L ≠ c) : Deal (upd H L o) d c := by
  obtain ⟨cs, mix, h1, h2, r⟩ := D.ex
  exact ⟨cs, mix, (upd_ne n1.symm).trans h1, (upd_ne n2.symm).trans h2, r⟩
/-- a list that is made by and by: hidden from the base -/
structure Ml (d c : Addr) (B H : Hp) (L : Addr) (xs : List V) : Prop where
  at_ : H L = some (.lst xs)
  no : B L = none
  nd : L ≠ d
  nc : L ≠ c
theorem Ml.ext {d c L : Addr} {B H B' H' : Hp} {xs : List V} (m : Ml d c B H L xs) (e : ExtD d c B H B' H') : Ml d c B' H' L xs :=
  ⟨e.keep m.at_ m.nd m.nc, e.nw L (by rw [m.at_]; exact fun z => nomatch z) m.no, m.nd, m.nc⟩
theorem Ml.new {d c L : Addr} {B H : Hp} {xs : List V} (D : Dl B H d c) (h : H L = none) : Ml d c B (upd H L (.lst xs)) L xs ∧ ExtD d c B H B (upd H L (.lst xs)) :=
  ⟨⟨upd_same, D.bh.free h, (D.deal.free h).1, (D.deal.free h).2⟩, .of D (.own D.bh h)⟩
theorem Ml.set {d c L : Addr} {B H : Hp} {xs ys : List V} (D : Dl B H d c) (m : Ml d c B H L xs) : Ml d c B (upd H L (.lst ys)) L ys ∧ Dl B (upd H L (.lst ys)) d c :=
  ⟨⟨upd_same, m.no, m.nd, m.nc⟩, deal_upd0 D.deal m.nd m.nc, fun b o h => by
    have z : b ≠ L := fun z => by rw [z, m.no] at h; cases h
    obtain ⟨h1, h2, h3⟩ := off_some (D.sub b o h)
    rw [off_at h2 h3, upd_ne z]
    exact h1⟩
section
variable {K : PySem.W.Frag} {σ : L2.St} {B H : Hp} {ta tb te tl : TE} {tt tu : TT} {R S T U : Rel} {Rs : List Rel} {D : Ends} {t u rest : TS} {i j : Nat} {d c : Addr} {Q : VK} {E : XK}
theorem d_ev (L : Dl B H d c) (h : De te σ B R) (k : ∀ v B' H', ExtD d c B H B' H' → R B' v → Q v H') : te σ H Q := h B H (Same.refl _) L.bh Q fun v B' H' e hv => k v B' H' (.of L e) hv
theorem s_raw (h : te σ H fun v H' => rest D (σ.set i (some v)) H') : tSeq (tAsg te (gName i)) rest D σ H := h
theorem s_rawE (h : te σ H fun v H' => D.nx (σ.set i (some v)) H') : tAsg te (gName i) D σ H := h
theorem s_retR (h : te σ H D.rt) : tRet te D σ H := h
theorem s_ifR (h : tt σ H fun b H1 => if b = true then t D σ H1 else u D σ H1) : tIfS tt t u D σ H := h
theorem s_ifSR (h : tt σ H fun b H1 => if b = true then t { D with nx := rest D } σ H1 else u { D with nx := rest D } σ H1) : tSeq (tIfS tt t u) rest D σ H := h
theorem r_op {r : R2} (h : ta σ H fun x H1 => tb σ H1 fun y H2 => r x y H2 Q) : tOp r ta tb σ H Q := h
theorem s_parR (h : ta σ H fun x H1 => tb σ H1 fun y H2 => rest D ((σ.set i (some x)).set j (some y)) H2) : tSeq (tPar i j (tCons ta (tCons tb tNil))) rest D σ H := by
  show ta σ H fun x H1 => tb σ H1 fun y H2 => ∃ v w, [x, y] = [v, w] ∧ rest D ((σ.set i (some v)).set j (some w)) H2
  have e : (fun x H1 => tb σ H1 fun y H2 => ∃ v w, [x, y] = [v, w] ∧ rest D ((σ.set i (some v)).set j (some w)) H2) = fun x H1 => tb σ H1 fun y H2 => rest D ((σ.set i (some x)).set j (some y)) H2 := by
    funext x H1
    congr 1
    funext y H2
    apply propext
    constructor
    · rintro ⟨v, w, h, q⟩
      cases h
      exact q
    · exact fun q => ⟨_, _, rfl, q⟩
  rw [e]
  exact h
theorem c_any {n : Int} (L : Dl B H d c) (hd : σ[i]? = some (some (.ref d))) (hn : De te σ B (dat K (.int n))) (n0 : 0 < n) (n1 : n < 2 ^ 300) (k : ∀ r B' H', 0 ≤ r → r < n → ExtD d c B H B' H' → Q (.int r) H') :
    tCall spAny [] E (tCons (tVar i) (tCons te tNil)) σ H Q :=
  ⟨.ref d, hd, d_ev L hn fun v B' H' e hv => ⟨d, c, n, by rw [dat_int hv]; rfl, e.deal, n0, n1, fun r H2 r0 r1 D2 S2 => k r B' H2 r0 r1 (.trans L e (.draw e.dl D2 S2))⟩⟩
theorem c_ofL {ds : List PyData} (L : Dl B H d c) (hd : σ[i]? = some (some (.ref d))) (hn : De te σ B (dat K (.list ds))) (ne : ds ≠ []) (few : ds.length ≤ 1000) (k : ∀ x v B' H', x ∈ ds → ExtD d c B H B' H' → dat K x B' v → Q v H') :
    tCall (spOf K) [] E (tCons (tVar i) (tCons te tNil)) σ H Q :=
  ⟨.ref d, hd, d_ev L hn fun v B' H' e hv => by
    obtain ⟨p, xs, rfl, hs, hR⟩ := dat_lstR hv
    have len := allR_len hR
    rw [List.length_map] at len
    refine ⟨d, c, .ref p, rfl, e.deal, .inl ⟨p, xs, rfl, e.sub.seq hs, fun z => ne (List.eq_nil_of_length_eq_zero (by rw [← len, z]; rfl)), by omega, fun v H2 hv D2 S2 => ?_⟩⟩
    obtain ⟨m, hm, hme⟩ := List.mem_iff_getElem.mp hv
    obtain ⟨R, hR1, hR2⟩ := allR_at hR (List.getElem?_eq_getElem hm)
    rw [List.getElem?_map] at hR1
    obtain ⟨x, hx, rfl⟩ := Option.map_eq_some_iff.mp hR1
    rw [hme] at hR2
    exact k x v B' H2 (List.mem_of_getElem? hx) (.trans L e (.draw e.dl D2 S2)) hR2⟩
theorem c_ofT {ds : List PyData} (L : Dl B H d c) (hd : σ[i]? = some (some (.ref d))) (hn : De te σ B (dat K (.tuple ds))) (ne : ds ≠ []) (few : ds.length ≤ 1000) (k : ∀ x v B' H', x ∈ ds → ExtD d c B H B' H' → dat K x B' v → Q v H') :
    tCall (spOf K) [] E (tCons (tVar i) (tCons te tNil)) σ H Q :=
  ⟨.ref d, hd, d_ev L hn fun v B' H' e hv => by
    obtain ⟨p, xs, rfl, hs, hR⟩ := dat_tupR hv
    have len := allR_len hR
    rw [List.length_map] at len
    refine ⟨d, c, .ref p, rfl, e.deal, .inr (.inl ⟨p, xs, rfl, seqT e.sub hs, fun z => ne (List.eq_nil_of_length_eq_zero (by rw [← len, z]; rfl)), by omega, fun v H2 hv D2 S2 => ?_⟩)⟩
    obtain ⟨m, hm, hme⟩ := List.mem_iff_getElem.mp hv
    obtain ⟨R, hR1, hR2⟩ := allR_at hR (List.getElem?_eq_getElem hm)
    rw [List.getElem?_map] at hR1
    obtain ⟨x, hx, rfl⟩ := Option.map_eq_some_iff.mp hR1
    rw [hme] at hR2
    exact k x v B' H2 (List.mem_of_getElem? hx) (.trans L e (.draw e.dl D2 S2)) hR2⟩
theorem c_ofS {z : Str} (L : Dl B H d c) (hd : σ[i]? = some (some (.ref d))) (hn : De te σ B (dat K (.str z))) (ne : 0 < z.length) (few : z.length ≤ 1000) (k : ∀ a B' H', a ∈ z.cps.toList → ExtD d c B H B' H' → Q (.str ⟨#[a]⟩) H') :
    tCall (spOf K) [] E (tCons (tVar i) (tCons te tNil)) σ H Q :=
  ⟨.ref d, hd, d_ev L hn fun v B' H' e hv => ⟨d, c, v, rfl, e.deal, .inr (.inr ⟨z, dat_str hv, ne, few, fun a H2 ha D2 S2 => k a B' H2 ha (.trans L e (.draw e.dl D2 S2))⟩)⟩⟩
theorem t_any0 {n : Int} {Q : Bool → Hp → Prop} (L : Dl B H d c) (hd : σ[i]? = some (some (.ref d))) (hn : De te σ B (dat K (.int n))) (n0 : 0 < n) (n1 : n < 2 ^ 300) (k : ∀ b B' H', ExtD d c B H B' H' → Q b H') :
    tTest (tOp rEq (tCall spAny [] E (tCons (tVar i) (tCons te tNil))) (tC (.int 0))) σ H Q :=
  c_any L hd hn n0 n1 fun r B' H' _ _ e => ⟨rfl, _, rfl, k _ B' H' e⟩
/-- what a def is worth that draws -/
def DPf {α : Type} (args : α → List Rel) (pre : α → Prop) (res : α → Rel) : Sp := fun vs H Q _ => ∃ (d c : Addr) (B : Hp) (a : α) (us : List V), vs = .ref d :: us ∧ Dl B H d c ∧ AllR (args a) B us ∧ pre a ∧ ∀ v B' H', ExtD d c B H B' H' → res a B' v → Q v H'
theorem c_def {α : Type} {args : α → List Rel} {pre : α → Prop} {res : α → Rel} {tr : TA} (a : α) (L : Dl B H d c) (hd : σ[i]? = some (some (.ref d))) (ha : Da tr σ B (args a)) (hp : pre a) (k : ∀ v B' H', ExtD d c B H B' H' → res a B' v → Q v H') :
    tCall (DPf args pre res) [] E (tCons (tVar i) tr) σ H Q :=
  ⟨.ref d, hd, ha B H (Same.refl _) L.bh _ fun vs B1 H1 e hv => ⟨d, c, B1, a, vs, by rw [List.append_nil], (ExtD.of L e).dl, hv, hp, fun v B' H' e' hr => k v B' H' (.trans L (.of L e) e') hr⟩⟩
theorem De.slS {z : Str} {tl th : TO} {lo hi : Option Int} (h : De te σ B (dat K (.str z))) (h1 : Do tl σ B lo) (h2 : Do th σ B hi) (hz : z.length ≤ sizeLine) : De (L2.tSl rSlS te tl th) σ B (dat K (.str (cutS z lo hi))) :=
  .sl h h1 h2 fun x B1 H s1 s2 hx Q q => ⟨z, dat_str hx, hz, q _ B1 H (.refl s2) (.str _)⟩
end
theorem dpf_len {α : Type} {args : α → List Rel} {pre : α → Prop} {res : α → Rel} {vs : List V} {H : Hp} {Q : VK} {E : XK} (h : DPf args pre res vs H Q E) {m : Nat} (n : ∀ a, (args a).length + 1 = m) : vs.length = m := by
  obtain ⟨d, c, B, a, us, rfl, _, h, _⟩ := h
  rw [List.length_cons, allR_len h, n]
theorem cutS_mem {z : Str} {lo hi : Option Int} {a : Nat} (h : a ∈ (cutS z lo hi).cps.toList) : a ∈ z.cps.toList := by
  unfold cutS at h
  simp only [List.toList_toArray] at h
  exact List.mem_of_mem_drop (List.mem_of_mem_take h)
end Wv

set_option Elab.async false
set_option linter.all false
set_option maxRecDepth 100000
set_option maxHeartbeats 4000000
/-! Wv6: lists that are made while a deal goes on. -/
namespace Wv
open PySem PySem.Spec PyProof.Rows L2 Wb
section
variable {α : Type} {R R1 R2 : α → Rel} {pre : α → Prop} {res : α → Rel} {vs : List V} {H : Hp} {Q : VK} {E : XK}
theorem dpf0 (h : DPf (fun _ => []) pre res vs H Q E) : ∃ d c B a, vs = [.ref d] ∧ Dl B H d c ∧ pre a ∧ ∀ v B' H', ExtD d c B H B' H' → res a B' v → Q v H' := by
  obtain ⟨d, c, B, a, us, rfl, L, h, p, k⟩ := h
  have h : us = [] := h
  subst h
  exact ⟨d, c, B, a, rfl, L, p, k⟩
theorem dpf1 (h : DPf (fun a => [R a]) pre res vs H Q E) : ∃ d v c B a, vs = [.ref d, v] ∧ Dl B H d c ∧ R a B v ∧ pre a ∧ ∀ v B' H', ExtD d c B H B' H' → res a B' v → Q v H' := by
  obtain ⟨d, c, B, a, us, rfl, L, ⟨v, r, rfl, h1, h⟩, p, k⟩ := h
  have h : r = [] := h
  subst h
  exact ⟨d, v, c, B, a, rfl, L, h1, p, k⟩
theorem dpf2 (h : DPf (fun a => [R a, R1 a]) pre res vs H Q E) : ∃ d v v1 c B a, vs = [.ref d, v, v1] ∧ Dl B H d c ∧ R a B v ∧ R1 a B v1 ∧ pre a ∧ ∀ v B' H', ExtD d c B H B' H' → res a B' v → Q v H' := by
  obtain ⟨d, c, B, a, us, rfl, L, ⟨v, r, rfl, h1, v1, r1, rfl, h2, h⟩, p, k⟩ := h
  have h : r1 = [] := h
  subst h
  exact ⟨d, v, v1, c, B, a, rfl, L, h1, h2, p, k⟩
end
theorem Di.itr {K : PySem.W.Frag} {σ : L2.St} {B : Hp} {lo : Int} {n : Nat} : Di (fun _ H R => R (Itr lo n) H) σ B ((List.range n).map fun i : Nat => dat K (.int (lo + (i : Int)))) := fun B1 H _ s2 Q q => q (Itr lo n) B1 H (.refl s2) wk_ints
theorem ExtD.setL {d c L : Addr} {B H B' H' : Hp} {xs ys : List V} (e : ExtD d c B H B' H') (m : Ml d c B' H' L xs) (h : H L = none) : ExtD d c B H B' (upd H' L (.lst ys)) :=
  ⟨deal_upd0 e.deal m.nd m.nc, fun b o z => by
    obtain ⟨h1, h2, h3⟩ := off_some z
    have n : b ≠ L := fun q => by rw [q, h] at h1; cases h1
    rw [off_at h2 h3, upd_ne n]
    exact (off_some (e.oo b o z)).1, e.bb, (Ml.set e.dl m).2.sub, e.nw⟩
/-- such a list comes into the base -/
theorem ExtD.settle {d c L : Addr} {B H B' H' : Hp} {xs : List V} (e : ExtD d c B H B' H') (m : Ml d c B' H' L xs) (h : H L = none) : ExtD d c B H (upd B' L (.lst xs)) H' :=
  ⟨e.deal, e.oo, e.bb.trans (new_same m.no), fun b o z => by
    by_cases n : b = L
    · subst n
      rw [upd_same] at z
      cases z
      exact (off_at m.nd m.nc).trans m.at_
    · rw [upd_ne n] at z
      exact e.sub b o z, fun b h1 h2 => by
    have n : b ≠ L := fun q => h1 (by rw [q]; exact h)
    rw [upd_ne n]
    exact e.nw b h1 h2⟩
theorem Ml.dat {K : PySem.W.Frag} {d c L : Addr} {B H : Hp} {xs : List V} {out : List PyData} (m : Ml d c B H L xs) (h : AllR (out.map (dat K)) B xs) : Wv.dat K (.list out) (upd B L (.lst xs)) (.ref L) :=
  lstR_dat ⟨L, xs, rfl, SqL.of upd_same, MoA.mo (new_same m.no) h⟩
section
variable {K : PySem.W.Frag} {σ : L2.St} {B H : Hp} {te : TE} {tt : TT} {d c : Addr} {Q : VK}
theorem c_lcD {α : Type} {as : List α} {r : α → Rel} {wi : TI} {g : TG} {vs : List Nat} (L : Dl B H d c) (hi : Di wi σ B (as.map r)) (few : as.length < sizeLine) (Pv : Nat → List PyData → Prop) (h0 : Pv 0 [])
    (hs : ∀ i a v B1 H1 out, as[i]? = some a → Dl B1 H1 d c → Same B B1 → r a B1 v → Pv i out → ∀ (Y : V → Hp → Prop) (N : Hp → Prop), (∀ y B4 H4 x, ExtD d c B1 H1 B4 H4 → dat K x B4 y → Pv (i + 1) (out ++ [x]) → Y y H4) →
      (∀ B4 H4, ExtD d c B1 H1 B4 H4 → Pv (i + 1) out → N H4) → g v (wipe σ vs) H1 fun σ2 H2 => wipe σ2 vs = wipe σ vs ∧ tt σ2 H2 fun b H3 => if b = true then te σ2 H3 Y else N H3)
    (hd : ∀ out v B' H', ExtD d c B H B' H' → Pv as.length out → dat K (.list out) B' v → Q v H') : tLc wi g tt te vs σ H Q := hi B H (Same.refl _) L.bh _ fun J B2 H2 e hw => fun D hD => by
  have eD := ExtD.of L e
  have hw' : Walk J as.length (fun H => Same B2 H) (fun i H x H' => ∃ R, (as.map r)[i]? = some R ∧ ∀ Bc, Same B2 Bc → Same Bc H → ∃ Bn, Ext Bc H Bn H' ∧ R Bn x) := by
    have := hw
    unfold Wk at this
    rw [List.length_map] at this
    exact this
  refine lc_it hw' (fun i H' => ∃ B' xs out, ExtD d c B2 H2 B' H' ∧ Ml d c B' H' D xs ∧ AllR (out.map (dat K)) B' xs ∧ Pv i out ∧ out.length ≤ i) ?_ (fun i H' _ ⟨B', xs, out, e', _⟩ => e'.bb.trans e'.bh) ?_ ?_
  · exact ⟨B2, [], [], (Ml.new eD.dl hD).2, (Ml.new eD.dl hD).1, rfl, h0, Nat.le_refl _⟩
  · rintro i x H' H'' hi' ⟨Bc, xs, out, e', m, hxs, pv, lo⟩ ⟨R, hR, y⟩
    obtain ⟨Bn, e2, hx⟩ := y Bc e'.bb e'.bh
    rw [List.getElem?_map] at hR
    obtain ⟨a, ha, rfl⟩ := Option.map_eq_some_iff.mp hR
    have e2 := ExtD.of e'.dl e2
    have e12 := e'.trans eD.dl e2
    have len := allR_len hxs
    rw [List.length_map] at len
    refine hs i a x Bn H'' out ha e2.dl ((eD.bb.trans e'.bb).trans e2.bb) hx pv _ _ (fun y B4 H4 z e4 hz pz => ?_) fun B4 H4 e4 pz => ?_
    · have e14 := e12.trans eD.dl e4
      have m4 := (m.ext e2).ext e4
      refine ⟨xs, m4.at_, by omega, B4, xs ++ [y], out ++ [z], e14.setL m4 hD, (Ml.set e4.dl m4).1, ?_, pz, by simp; omega⟩
      rw [List.map_append]
      exact allR_snoc (MoA.mo (e2.bb.trans e4.bb) hxs) hz
    · exact ⟨B4, xs, out, e12.trans eD.dl e4, (m.ext e2).ext e4, MoA.mo (e2.bb.trans e4.bb) hxs, pz, by omega⟩
  · rintro H' ⟨B', xs, out, e', m, hxs, pv, lo⟩
    have hBD : H D = none := by
      cases h : H D with
      | none => rfl
      | some o =>
        rw [e.hh D o h] at hD
        cases hD
    exact hd out (.ref D) _ H' ((eD.trans L e').settle m hBD) pv (m.dat hxs)
/-- as often as a drawn number tells -/
theorem c_lcAny {n k : Int} {i : Nat} {g : TG} {vs : List Nat} {E : XK} {te0 : TE} (L : Dl B H d c) (hd : σ[i]? = some (some (.ref d))) (hn : De te0 σ B (dat K (.int n))) (n0 : 0 < n) (n1 : n < 2 ^ 60) (k0 : 0 ≤ k) (k1 : k < 2 ^ 60)
    (go : ∀ r B' H', 0 ≤ r → r < n → ExtD d c B H B' H' → tLc (fun _ H R => R (Itr 0 (k + r).toNat) H) g tt te vs σ H' Q) :
    tLc (iRng1 (tCons (tOp (rI0 fun i j => V.int (i + j)) (tC (.int k)) (tCall spAny [] E (tCons (tVar i) (tCons te0 tNil)))) tNil)) g tt te vs σ H Q :=
  c_any L hd hn n0 (by omega) fun r B' H' r0 r1 e => ⟨k, r, rfl, rfl, k + r, rfl, by omega, by omega, go r B' H' r0 r1 e⟩
/-- what is wanted behind a turn -/
def Nd (d c : Addr) (B0 H0 B1 : Hp) (P : L2.St → Hp → Hp → Prop) : L2.St → Hp → Prop := fun σ H' => ∃ B', ExtD d c B0 H0 B' H' ∧ Same B1 B' ∧ P σ B' H'
theorem s_forD {wi : TI} {g : TG} {ts rest : TS} {D : Ends} {Rs : List Rel} {B0 H0 : Hp} (L0 : Dl B0 H0 d c) (e0 : ExtD d c B0 H0 B H) (hi : Di wi σ B Rs) (Pv : Nat → L2.St → Hp → Hp → Prop) (h0 : ∀ B1 H1, ExtD d c B H B1 H1 → Pv 0 σ B1 H1)
    (hs : ∀ B1 i R v σ' Bc Hc Bn Hn, Same B B1 → Rs[i]? = some R → ExtD d c B0 H0 Bc Hc → Same B1 Bc → Pv i σ' Bc Hc → ExtD d c Bc Hc Bn Hn → R Bn v → g v σ' Hn fun σ2 H2 => ts { D with nx := Nd d c B0 H0 B1 (Pv (i + 1)), ct := Nd d c B0 H0 B1 (Pv (i + 1)), bk := rest D } σ2 H2)
    (hd : ∀ σ' B' H', ExtD d c B0 H0 B' H' → Same B B' → Pv Rs.length σ' B' H' → rest D σ' H') : tSeq (tFor wi g ts) rest D σ H :=
  hi B H (Same.refl _) e0.bh _ fun J B1 H1 e hw => by
    have eD := ExtD.of e0.dl e
    have := for_it hw (D := { D with nx := rest D }) (g := g) (tb := ts) (fun i => Nd d c B0 H0 B1 (Pv i)) ⟨B1, e0.trans L0 eD, Same.refl _, h0 B1 H1 eD⟩ (fun i σ' H' _ ⟨B', s1, s2, _⟩ => s2.trans s1.bh)
      (fun i x σ' H' H'' hi ⟨Bc, s1, s2, p⟩ ⟨R, hR, y⟩ => by
        obtain ⟨Bn, e2, hx⟩ := y Bc s2 s1.bh
        exact hs B1 i R x σ' Bc H' Bn H'' eD.bb hR s1 s2 p (.of s1.dl e2) hx)
      (fun σ' H' ⟨B', s1, s2, p⟩ => hd σ' B' H' s1 (eD.bb.trans s2) p)
    exact this
theorem s_forL {g : TG} {ts rest : TS} {D : Ends} (h : te σ H fun x H1 => ∃ a, x = .ref a ∧ (∃ xs, SqL K H1 a xs) ∧ tSeq (tFor (fun _ H R => R (Itl K a) H) g ts) rest D σ H1) : tSeq (tFor (iList K te) g ts) rest D σ H := h
theorem Di.itl {a : Addr} {ds : List PyData} (h : dat K (.list ds) B (.ref a)) : Di (fun _ H R => R (Itl K a) H) σ B (ds.map (dat K)) := fun B1 H s1 s2 Q q => by
  obtain ⟨v, hv, a', ha, _, r⟩ := Di.listD (K := K) (De.var (i := 0) (σ := [some (.ref a)]) h rfl) B1 H s1 s2 Q q
  cases hv
  cases ha
  exact r
/-- a hidden list, looked at: the base with it -/
theorem Ml.look {L : Addr} {xs : List V} (D : Dl B H d c) (m : Ml d c B H L xs) : Same B (upd B L (.lst xs)) ∧ Same (upd B L (.lst xs)) H := ⟨new_same m.no, fun b o h => by
  by_cases n : b = L
  · subst n
    rw [upd_same] at h
    cases h
    exact m.at_
  · rw [upd_ne n] at h
    exact D.bh b o h⟩
theorem Ml.looked {L : Addr} {xs : List V} {B2 H2 : Hp} (D : Dl B H d c) (e : Ext (upd B L (.lst xs)) H B2 H2) : ExtD d c B H B H2 := .of D ⟨e.hh, Same.refl _, D.bh.trans e.hh, fun _ _ h => h⟩
end
theorem nodup_len {α : Type} [BEq α] [LawfulBEq α] : ∀ {l m : List α}, l.Nodup → (∀ x ∈ l, x ∈ m) → l.length ≤ m.length
  | [], _, _, _ => Nat.zero_le _
  | x :: l, m, h, s => by
    obtain ⟨h1, h2⟩ := List.nodup_cons.mp h
    have hx := s x List.mem_cons_self
    have := nodup_len (l := l) (m := m.erase x) h2 fun y hy => (List.mem_erase_of_ne (fun e => h1 (by rw [← e]; exact hy))).mpr (s y (List.mem_cons_of_mem _ hy))
    rw [List.length_erase_of_mem hx] at this
    have := List.length_pos_of_mem hx
    rw [List.length_cons]
    omega
end Wv

set_option Elab.async false
set_option linter.all false
set_option maxRecDepth 100000
set_option maxHeartbeats 4000000
/-! Fm0: forms, their rows and lots, as lists and as data. -/
namespace Fm
open PySem PySem.Spec PyProof.Rows L2 Wb Wv
abbrev Qs := List (Str × Nat)
def encQ (q : Str × Nat) : PyData := .tuple [.str q.1, .int (q.2 : Int)]
def qsD (qs : Qs) : PyData := .tuple (qs.map encQ)
def formR (K : PySem.W.Frag) (C : Addr) (qs : Qs) : Rel := insR C [("questions", dat K (qsD qs))]
instance {K : PySem.W.Frag} {C : Addr} {qs : Qs} : Mo (formR K C qs) := inferInstanceAs (Mo (insR C [("questions", dat K (qsD qs))]))
def lotD (l : List Str) : PyData := .tuple (l.map .str)
def rowD (r : List Int) : PyData := .tuple (r.map .int)
def rowsL (rs : List (List Int)) : PyData := .list (rs.map rowD)
def rowsT (rs : List (List Int)) : PyData := .tuple (rs.map rowD)
def names (qs : Qs) : List Str := qs.map (·.1)
/-- lo, lo + 1, .. n of them -/
def rng (lo : Int) (n : Nat) : List Int := (List.range n).map fun i : Nat => lo + (i : Int)
theorem rng_len {lo : Int} {n : Nat} : (rng lo n).length = n := by simp [rng]
/-- all rows with an item of each list -/
def grow1 {α : Type} (rows : List (List α)) (vals : List α) : List (List α) := rows.flatMap fun r => vals.map fun v => r ++ [v]
def grow {α : Type} (ls : List (List α)) : List (List α) := ls.foldl grow1 [[]]
theorem grow_snoc {α : Type} (ls : List (List α)) (l : List α) : grow (ls ++ [l]) = grow1 (grow ls) l := by
  unfold grow
  rw [List.foldl_append]
  rfl
theorem grow1_len {α : Type} (rows : List (List α)) (vals : List α) : (grow1 rows vals).length = rows.length * vals.length := by
  unfold grow1
  induction rows with
  | nil => simp
  | cons r rows ih =>
    rw [List.flatMap_cons, List.length_append, ih, List.length_map, List.length_cons, Nat.succ_mul, Nat.add_comm]
theorem grow_len {α : Type} {m : Nat} (ls : List (List α)) (h : ∀ l ∈ ls, l.length ≤ m) : (grow ls).length ≤ m ^ ls.length := by
  suffices ∀ (k : Nat), k ≤ ls.length → (grow (ls.take k)).length ≤ m ^ k by
    have := this ls.length (Nat.le_refl _)
    rw [List.take_length] at this
    exact this
  intro k
  induction k with
  | zero =>
    intro _
    rw [List.take_zero, Nat.pow_zero]
    exact Nat.le_refl _
  | succ k ih =>
    intro hk
    have e : ls.take (k + 1) = ls.take k ++ [ls[k]] := by rw [List.take_succ, List.getElem?_eq_getElem (by omega)]; rfl
    rw [e, grow_snoc, grow1_len, Nat.pow_succ]
    exact Nat.mul_le_mul (ih (by omega)) (h _ (List.getElem_mem _))
theorem grow1_mem {α : Type} {rows : List (List α)} {vals : List α} {r : List α} (h : r ∈ grow1 rows vals) : ∃ a ∈ rows, ∃ v ∈ vals, r = a ++ [v] := by
  unfold grow1 at h
  obtain ⟨a, ha, hr⟩ := List.mem_flatMap.mp h
  obtain ⟨v, hv, rfl⟩ := List.mem_map.mp hr
  exact ⟨a, ha, v, hv, rfl⟩
/-- an item of each list, in their order -/
def Picks {α : Type} : List α → List (List α) → Prop
  | [], [] => True
  | v :: r, l :: ls => v ∈ l ∧ Picks r ls
  | _, _ => False
theorem picks_snoc {α : Type} {v : α} {l : List α} (hv : v ∈ l) : ∀ {r : List α} {ls : List (List α)}, Picks r ls → Picks (r ++ [v]) (ls ++ [l])
  | [], [], _ => ⟨hv, trivial⟩
  | _ :: _, _ :: _, ⟨h, t⟩ => ⟨h, picks_snoc hv t⟩
  | [], _ :: _, h => h.elim
  | _ :: _, [], h => h.elim
theorem grow_picks {α : Type} (ls : List (List α)) : ∀ r ∈ grow ls, Picks r ls := by
  suffices ∀ k, k ≤ ls.length → ∀ r ∈ grow (ls.take k), Picks r (ls.take k) by
    have := this ls.length (Nat.le_refl _)
    rw [List.take_length] at this
    exact this
  intro k
  induction k with
  | zero =>
    intro _ r hr
    rw [List.take_zero] at *
    have hr : r ∈ [[]] := hr
    rw [List.mem_singleton.mp hr]
    trivial
  | succ k ih =>
    intro hk r hr
    have e : ls.take (k + 1) = ls.take k ++ [ls[k]] := by rw [List.take_succ, List.getElem?_eq_getElem (by omega)]; rfl
    rw [e, grow_snoc] at hr
    rw [e]
    obtain ⟨a, ha, v, hv, rfl⟩ := grow1_mem hr
    exact picks_snoc hv (ih (by omega) a ha)
theorem picks_len {α : Type} : ∀ {r : List α} {ls : List (List α)}, Picks r ls → r.length = ls.length
  | [], [], _ => rfl
  | _ :: _, _ :: _, ⟨_, t⟩ => by simp [picks_len t]
  | [], _ :: _, h => h.elim
  | _ :: _, [], h => h.elim
theorem grow_row {α : Type} {ls : List (List α)} {r : List α} (h : r ∈ grow ls) : r.length = ls.length := picks_len (grow_picks ls r h)
theorem picks_at {α : Type} : ∀ {r : List α} {ls : List (List α)} {i : Nat} {l : List α}, Picks r ls → ls[i]? = some l → ∃ v, r[i]? = some v ∧ v ∈ l
  | _ :: _, _ :: _, 0, _, ⟨h, _⟩, e => ⟨_, rfl, by cases e; exact h⟩
  | _ :: _, _ :: _, i + 1, _, ⟨_, t⟩, e => picks_at (i := i) t e
  | [], _ :: _, _, _, h, _ => h.elim
  | [], [], _, _, _, e => nomatch e
theorem grow1_map {α : Type} (f : α → α) (rows : List (List α)) (l : List α) : (grow1 rows l).map (List.map f) = grow1 (rows.map (List.map f)) (l.map f) := by
  unfold grow1
  rw [List.map_flatMap, List.flatMap_map]
  congr 1
  funext r
  rw [List.map_map, List.map_map]
  congr 1
  funext v
  simp
theorem grow_map {α : Type} (f : α → α) (ls : List (List α)) : (grow ls).map (List.map f) = grow (ls.map (List.map f)) := by
  unfold grow
  rw [List.foldl_map]
  generalize e : ([[]] : List (List α)) = z
  have e2 : z.map (List.map f) = z := by rw [← e]; rfl
  clear e
  suffices ∀ (rows rows2 : List (List α)), rows.map (List.map f) = rows2 → (ls.foldl grow1 rows).map (List.map f) = ls.foldl (fun x y => grow1 x (y.map f)) rows2 from this z z e2
  induction ls with
  | nil =>
    intro rows rows2 h
    exact h
  | cons l ls ih =>
    intro rows rows2 h
    refine ih _ _ ?_
    rw [grow1_map, h]
/-- all lots within a lot -/
def subs (l : List Str) : List (List Str) := l.foldl (fun f n => f ++ f.map fun a => a ++ [n]) [[]]
theorem subs_snoc (l : List Str) (n : Str) : subs (l ++ [n]) = subs l ++ (subs l).map fun a => a ++ [n] := by
  unfold subs
  rw [List.foldl_append]
  rfl
theorem subs_len (l : List Str) : ∀ k, k ≤ l.length → (subs (l.take k)).length = 2 ^ k := by
  intro k
  induction k with
  | zero =>
    intro _
    rw [List.take_zero]
    rfl
  | succ k ih =>
    intro hk
    have e : l.take (k + 1) = l.take k ++ [l[k]] := by rw [List.take_succ, List.getElem?_eq_getElem (by omega)]; rfl
    rw [e, subs_snoc, List.length_append, List.length_map, ih (by omega), Nat.pow_succ]
    omega
theorem subs_row {l a : List Str} (h : a ∈ subs l) : a.length ≤ l.length := by
  suffices ∀ k, k ≤ l.length → ∀ a ∈ subs (l.take k), a.length ≤ k from this l.length (Nat.le_refl _) a (by rw [List.take_length]; exact h)
  intro k
  induction k with
  | zero =>
    intro _ a ha
    rw [List.take_zero] at ha
    have ha : a ∈ [[]] := ha
    rw [List.mem_singleton.mp ha]
    exact Nat.le_refl _
  | succ k ih =>
    intro hk a ha
    have e : l.take (k + 1) = l.take k ++ [l[k]] := by rw [List.take_succ, List.getElem?_eq_getElem (by omega)]; rfl
    rw [e, subs_snoc] at ha
    rcases List.mem_append.mp ha with ha | ha
    · exact Nat.le_succ_of_le (ih (by omega) a ha)
    · obtain ⟨b, hb, rfl⟩ := List.mem_map.mp ha
      have := ih (by omega) b hb
      simp
      omega
theorem take_snoc {α : Type} {l : List α} {i : Nat} {x : α} (h : l[i]? = some x) : l.take (i + 1) = l.take i ++ [x] := by rw [List.take_succ, h]; rfl
/-- lots of names are alike -/
theorem alike_strs : ∀ a b : List Str, PySem.W.alikeAll (a.map PyData.str) (b.map PyData.str) = true
  | [], _ => by simp [PySem.W.alikeAll]
  | _ :: _, [] => by simp [PySem.W.alikeAll]
  | x :: a, y :: b => by
    simp only [List.map_cons, PySem.W.alikeAll, PySem.W.alike, Bool.true_and]
    exact alike_strs a b
theorem alike_lots (ls : List (List Str)) : PySem.W.AllAlike (ls.map lotD) := by
  intro d hd d' hd'
  obtain ⟨a, _, rfl⟩ := List.mem_map.mp hd
  obtain ⟨b, _, rfl⟩ := List.mem_map.mp hd'
  simp only [lotD, PySem.W.alike]
  exact alike_strs a b
theorem ok_lots (ls : List (List Str)) : PySem.W.SortOk (ls.map lotD) := .inl fun d hd => by
  obtain ⟨a, _, rfl⟩ := List.mem_map.mp hd
  exact ⟨_, rfl⟩
theorem depth_strs (l : List Str) : PyData.depthAll (l.map PyData.str) = 0 := by
  induction l with
  | nil => simp [PyData.depthAll]
  | cons x l ih => simp [PyData.depthAll, PyData.depth, ih]
theorem depth_lots (ls : List (List Str)) : ∀ d ∈ ls.map lotD, d.depth ≤ 60 := fun d hd => by
  obtain ⟨a, _, rfl⟩ := List.mem_map.mp hd
  simp [lotD, PyData.depth, depth_strs]
theorem depth_ints (l : List Int) : PyData.depthAll (l.map PyData.int) = 0 := by
  induction l with
  | nil => simp [PyData.depthAll]
  | cons x l ih => simp [PyData.depthAll, PyData.depth, ih]
/-- what a name's signs are -/
def Nmk (n : Nat) (z : Str) : Prop := z.length ≤ n ∧ ∀ c ∈ z.cps.toList, c < 128
abbrev Nm := Nmk 20
theorem Nmk.mono {m n : Nat} {z : Str} (h : Nmk m z) (l : m ≤ n) : Nmk n z := ⟨Nat.le_trans h.1 l, h.2⟩
theorem Nmk.app {m n : Nat} {x y : Str} (h : Nmk m x) (g : Nmk n y) : Nmk (m + n) (x ++ y) := by
  have e : (x ++ y).cps.toList = x.cps.toList ++ y.cps.toList := Array.toList_append
  refine ⟨?_, fun c hc => ?_⟩
  · have : (x ++ y).length = x.length + y.length := by
      show (x ++ y).cps.size = x.cps.size + y.cps.size
      rw [← Array.length_toList, e, List.length_append]
      rfl
    rw [this]
    exact Nat.add_le_add h.1 g.1
  · rw [e] at hc
    rcases List.mem_append.mp hc with hc | hc
    · exact h.2 c hc
    · exact g.2 c hc
theorem Nmk.cut {n : Nat} {z : Str} {lo hi : Option Int} (h : Nmk n z) : Nmk n (cutS z lo hi) := ⟨Nat.le_trans (cutS_length z lo hi) h.1, fun c hc => h.2 c (cutS_mem hc)⟩
theorem Nmk.one {a : Nat} (h : a < 128) : Nmk 1 ⟨#[a]⟩ := ⟨Nat.le_refl _, fun c hc => by
  have : c = a := by simpa using hc
  omega⟩
theorem Nm.ok {z : Str} (h : Nm z) : PyData.strOk z = true := by
  unfold PyData.strOk
  rw [← Array.all_toList, List.all_eq_true]
  intro c hc
  have := h.2 c hc
  simp only [decide_eq_true_eq]
  omega
theorem lay_strs {l : List Str} (h : ∀ z ∈ l, Nm z) : PyData.canLayAll0 (l.map PyData.str) = true := by
  rw [canLayAll_strs', List.all_eq_true]
  exact fun z hz => (h z hz).ok
theorem lay_ints (l : List Int) : PyData.canLayAll0 (l.map PyData.int) = true := by
  induction l with
  | nil => simp [PyData.canLayAll0]
  | cons x l ih => simp [PyData.canLayAll0, PyData.canLay0, ih]
theorem shaped_str {z : Str} (h : Nm z) : SeqAt.shaped (.str z) = true := by simp [SeqAt.shaped, PyData.canLay0, PyData.depth, h.ok]
theorem shaped_lot {l : List Str} (h : ∀ z ∈ l, Nm z) : SeqAt.shaped (lotD l) = true := by simp [SeqAt.shaped, lotD, PyData.canLay0, PyData.depth, lay_strs h, depth_strs]
theorem shaped_strsL {l : List Str} (h : ∀ z ∈ l, Nm z) : SeqAt.shaped (.list (l.map .str)) = true := by simp [SeqAt.shaped, PyData.canLay0, PyData.depth, lay_strs h, depth_strs]
theorem shaped_row (l : List Int) : SeqAt.shaped (rowD l) = true := by simp [SeqAt.shaped, rowD, PyData.canLay0, PyData.depth, lay_ints, depth_ints]
theorem any_strs (l : List Str) (z : Str) : ((l.map PyData.str).any fun d => PyData.eqv d (.str z)) = decide (z ∈ l) := by
  rw [List.any_map]
  induction l with
  | nil => simp
  | cons x l ih =>
    rw [List.any_cons, ih]
    simp only [Function.comp, PyData.eqv, List.mem_cons, Bool.decide_or, eq_comm (a := z)]
    rfl
theorem join_nm0 {n : Nat} {sep : Str} (hs : Nmk 0 sep) : ∀ {zs : List Str}, (∀ z ∈ zs, Nmk n z) → Nmk (zs.length * n) (Str.join sep zs)
  | [], _ => ⟨Nat.zero_le _, fun c hc => by cases hc⟩
  | [x], h => by
    have := h x List.mem_cons_self
    exact this.mono (by simp)
  | x :: y :: r, h => by
    have a := h x List.mem_cons_self
    have b := join_nm0 hs (zs := y :: r) fun z hz => h z (List.mem_cons_of_mem _ hz)
    show Nmk _ (x ++ sep ++ Str.join sep (y :: r))
    refine ((a.app hs).app b).mono ?_
    simp only [List.length_cons, Nat.succ_mul]
    omega
theorem join_nm {n : Nat} {sep : Str} (hs : Nmk 0 sep) {zs : List Str} (h : ∀ z ∈ zs, Nmk n z) : Nmk (zs.length * n) (Txt.join sep zs) := by
  unfold Txt.join
  rw [StrLaws.glued_eq_join]
  exact join_nm0 hs h
theorem sum_le {n : Nat} : ∀ {zs : List Str}, (∀ z ∈ zs, Nmk n z) → (zs.map (·.length)).sum ≤ zs.length * n
  | [], _ => Nat.zero_le _
  | x :: r, h => by
    have a := (h x List.mem_cons_self).1
    have b := sum_le (zs := r) fun z hz => h z (List.mem_cons_of_mem _ hz)
    simp only [List.map_cons, List.sum_cons, List.length_cons, Nat.succ_mul]
    omega
end Fm

set_option Elab.async false
set_option linter.all false
set_option maxRecDepth 100000
set_option maxHeartbeats 4000000
/-! Fm1: sheets, and what is behind them. -/
namespace Fm
open PySem PySem.Spec PyProof.Rows L2 Wb Wv
/-- the sheet of a lot and a truth -/
def sheetL (ns : List Str) (lot : List Str) (truth : List Int) : List Int := (ns.zip truth).map fun p => if p.1 ∈ lot then -1 else p.2
def lotL (ns : List Str) (sheet : List Int) : List Str := ((ns.zip sheet).filter fun p => decide (p.2 = -1)).map (·.1)
def behindL (qs : Qs) (sheet : List Int) : List (List Int) := grow ((qs.zip sheet).map fun p => if p.2 = -1 then rng 0 p.1.2 else [p.2])
theorem lot_sheet (lot : List Str) : ∀ (ns : List Str) (truth : List Int), ns.length = truth.length → (∀ i ∈ truth, 0 ≤ i) → lotL ns (sheetL ns lot truth) = ns.filter fun z => decide (z ∈ lot)
  | [], _, _, _ => rfl
  | z :: ns, [], h, _ => by simp at h
  | z :: ns, i :: truth, h, n => by
    have ih := lot_sheet lot ns truth (by simpa using h) fun j hj => n j (List.mem_cons_of_mem _ hj)
    have i0 := n i List.mem_cons_self
    unfold lotL sheetL at *
    rw [List.zip_cons_cons, List.map_cons, List.zip_cons_cons, List.filter_cons, List.filter_cons]
    by_cases c : z ∈ lot
    · simp only [c, if_true, decide_true]
      rw [List.map_cons, ih]
    · have e : ¬ i = -1 := by omega
      simp only [c, if_false, e, decide_false]
      simpa using ih
theorem lot_truth : ∀ (ns : List Str) (truth : List Int), (∀ i ∈ truth, 0 ≤ i) → lotL ns truth = []
  | [], _, _ => rfl
  | _ :: _, [], _ => rfl
  | z :: ns, i :: truth, n => by
    have ih := lot_truth ns truth fun j hj => n j (List.mem_cons_of_mem _ hj)
    have i0 := n i List.mem_cons_self
    unfold lotL at *
    rw [List.zip_cons_cons, List.filter_cons]
    have e : ¬ i = -1 := by omega
    simp only [e, decide_false]
    simpa using ih
theorem sheet_len (ns lot : List Str) (truth : List Int) (h : ns.length = truth.length) : (sheetL ns lot truth).length = truth.length := by
  unfold sheetL
  rw [List.length_map, List.length_zip]
  omega
theorem sheet_at {ns lot : List Str} {truth : List Int} {i : Nat} {z : Str} {t : Int} (h : ns[i]? = some z) (g : truth[i]? = some t) : (sheetL ns lot truth)[i]? = some (if z ∈ lot then -1 else t) := by
  unfold sheetL
  rw [List.getElem?_map, List.getElem?_zip_eq_some (z := (z, t)) |>.mpr ⟨h, g⟩]
  rfl
/-- where a row says otherwise than a sheet -/
def bad (due row : List Int) : List Nat := (List.range row.length).filter fun i => !decide (due.getD i 0 = -1) && !decide (due.getD i 0 = row.getD i 0)
theorem bad_snoc {due row : List Int} {x v : Int} (h : due.length = row.length) : bad (due ++ [x]) (row ++ [v]) = bad due row ++ if (!decide (x = -1) && !decide (x = v)) = true then [row.length] else [] := by
  unfold bad
  rw [List.length_append]
  show (List.range (row.length + 1)).filter _ = _
  rw [List.range_succ, List.filter_append]
  congr 1
  · refine List.filter_congr fun i hi => ?_
    have hi := List.mem_range.mp hi
    have e1 : (due ++ [x]).getD i 0 = due.getD i 0 := by
      simp only [List.getD_eq_getElem?_getD]
      rw [List.getElem?_append_left (by omega)]
    have e2 : (row ++ [v]).getD i 0 = row.getD i 0 := by
      simp only [List.getD_eq_getElem?_getD]
      rw [List.getElem?_append_left hi]
    rw [e1, e2]
  · have e1 : (due ++ [x]).getD row.length 0 = x := by
      simp only [List.getD_eq_getElem?_getD]
      rw [← h, List.getElem?_append_right (Nat.le_refl _)]
      simp
    have e2 : (row ++ [v]).getD row.length 0 = v := by
      simp only [List.getD_eq_getElem?_getD]
      rw [List.getElem?_append_right (Nat.le_refl _)]
      simp
    rw [List.filter_cons, e1, e2, List.filter_nil]
def fits (due row : List Int) : Bool := (bad due row).isEmpty
theorem fits_snoc {due row : List Int} {x v : Int} (h : due.length = row.length) : fits (due ++ [x]) (row ++ [v]) = (fits due row && (decide (x = -1) || decide (x = v))) := by
  unfold fits
  rw [bad_snoc h]
  cases c1 : decide (x = -1) <;> cases c2 : decide (x = v) <;> simp
theorem grow1_filter {α : Type} {Q : List α → Bool} {P : List α → Bool} {p : α → Bool} {vals : List α} : ∀ {rows : List (List α)}, (∀ r ∈ rows, ∀ v, Q (r ++ [v]) = (P r && p v)) → (grow1 rows vals).filter Q = grow1 (rows.filter P) (vals.filter p)
  | [], _ => rfl
  | r :: rows, h => by
    have ih := grow1_filter (vals := vals) (rows := rows) fun a ha => h a (List.mem_cons_of_mem _ ha)
    have h0 := h r List.mem_cons_self
    unfold grow1 at *
    rw [List.flatMap_cons, List.filter_append, ih, List.filter_map]
    have e : (Q ∘ fun v => r ++ [v]) = fun v => P r && p v := by
      funext v
      exact h0 v
    rw [e]
    cases c : P r with
    | true =>
      rw [List.filter_cons, c, if_pos rfl, List.flatMap_cons]
      simp
    | false =>
      rw [List.filter_cons, c, if_neg (by decide)]
      simp
theorem rng_succ (n : Nat) : rng 0 (n + 1) = rng 0 n ++ [(n : Int)] := by
  unfold rng
  rw [List.range_succ, List.map_append]
  simp
theorem rng_mem {n : Nat} {x : Int} : x ∈ rng 0 n ↔ 0 ≤ x ∧ x < n := by
  unfold rng
  rw [List.mem_map]
  constructor
  · rintro ⟨i, hi, rfl⟩
    have := List.mem_range.mp hi
    omega
  · rintro ⟨h0, h1⟩
    exact ⟨x.toNat, List.mem_range.mpr (by omega), by omega⟩
theorem rng_only {x : Int} : ∀ {n : Nat}, 0 ≤ x → x < n → (rng 0 n).filter (fun v => decide (x = -1) || decide (x = v)) = [x]
  | 0, h0, h1 => by omega
  | n + 1, h0, h1 => by
    rw [rng_succ, List.filter_append]
    by_cases e : x = n
    · have e1 : (rng 0 n).filter (fun v => decide (x = -1) || decide (x = v)) = [] := by
        rw [List.filter_eq_nil_iff]
        intro v hv
        have := rng_mem.mp hv
        simp
        omega
      rw [e1]
      simp [e]
    · rw [rng_only (n := n) h0 (by omega)]
      have e1 : ¬ x = -1 := by omega
      simp [e, e1]
theorem rng_all {n : Nat} : (rng 0 n).filter (fun v => decide ((-1 : Int) = -1) || decide ((-1 : Int) = v)) = rng 0 n := by
  rw [List.filter_eq_self]
  intro v _
  simp
/-- what is behind a sheet: the rows that say nothing else -/
theorem behind_fits {qs : Qs} {due : List Int} (h : qs.length = due.length) (ok : ∀ (i : Nat) (q : Str × Nat) (x : Int), qs[i]? = some q → due[i]? = some x → x = -1 ∨ (0 ≤ x ∧ x < q.2)) : behindL qs due = (grow (qs.map fun q => rng 0 q.2)).filter (fits due) := by
  unfold behindL
  suffices ∀ k, k ≤ qs.length → grow (((qs.zip due).take k).map fun p => if p.2 = -1 then rng 0 p.1.2 else [p.2]) = (grow ((qs.take k).map fun q => rng 0 q.2)).filter (fits (due.take k)) by
    have t := this qs.length (Nat.le_refl _)
    rw [List.take_length, List.take_of_length_le (by rw [List.length_zip]; omega), List.take_of_length_le (l := due) (by omega)] at t
    exact t
  intro k
  induction k with
  | zero =>
    intro _
    rw [List.take_zero, List.take_zero, List.take_zero]
    rfl
  | succ k ih =>
    intro hk
    obtain ⟨q, hq⟩ : ∃ q, qs[k]? = some q := ⟨_, List.getElem?_eq_getElem (by omega)⟩
    obtain ⟨x, hx⟩ : ∃ x, due[k]? = some x := ⟨_, List.getElem?_eq_getElem (by omega)⟩
    have hz : (qs.zip due)[k]? = some (q, x) := List.getElem?_zip_eq_some.mpr ⟨hq, hx⟩
    rw [take_snoc hz, take_snoc hq, take_snoc hx, List.map_append, List.map_append]
    show grow (_ ++ [_]) = (grow (_ ++ [_])).filter _
    rw [grow_snoc, grow_snoc, ih (by omega), grow1_filter (P := fits (due.take k)) (p := fun v => decide (x = -1) || decide (x = v))]
    · congr 1
      rcases ok k q x hq hx with e | ⟨h0, h1⟩
      · subst e
        rw [rng_all]
        rfl
      · rw [rng_only h0 h1]
        have e : ¬ x = -1 := by omega
        simp [e]
    · intro r hr v
      refine fits_snoc ?_
      rw [grow_row hr, List.length_map, List.length_take, List.length_take]
      omega
theorem fits_own {ns lot : List Str} {truth : List Int} (h : ns.length = truth.length) : fits (sheetL ns lot truth) truth = true := by
  unfold fits bad
  rw [List.isEmpty_iff, List.filter_eq_nil_iff]
  intro i hi
  have hi := List.mem_range.mp hi
  obtain ⟨z, hz⟩ : ∃ z, ns[i]? = some z := ⟨_, List.getElem?_eq_getElem (by omega)⟩
  obtain ⟨t, ht⟩ : ∃ t, truth[i]? = some t := ⟨_, List.getElem?_eq_getElem hi⟩
  have e := sheet_at (lot := lot) hz ht
  simp only [List.getD_eq_getElem?_getD, e, ht, Option.getD_some]
  by_cases c : z ∈ lot <;> simp [c]
end Fm

set_option Elab.async false
set_option linter.all false
set_option maxRecDepth 100000
set_option maxHeartbeats 4000000
/-! K04a: the program's rows and lots of forms. -/
namespace K04
open PySem PySem.Spec PyProof.Rows L2 Wb Wv Fm
def topS (i : Nat) : Stmt := PySem.Challenge.pw_whyblank_k04_whole_truths_lots_and_sheet.main.body.getD i (.Pass ⟨0, 0, 0, 0⟩)
abbrev s_tuplesOver : Stmt := topS 4
abbrev s_namesOf : Stmt := topS 7
abbrev s_placeOf : Stmt := topS 8
abbrev s_answersOf : Stmt := topS 9
abbrev s_truths : Stmt := topS 10
abbrev s_allSheets : Stmt := topS 11
abbrev s_lotsWithin : Stmt := topS 12
abbrev s_lots : Stmt := topS 13
abbrev s_withoutNames : Stmt := topS 14
abbrev s_sheetOf : Stmt := topS 15
abbrev s_lotOf : Stmt := topS 16
abbrev s_truthsBehind : Stmt := topS 17
abbrev s_source : Stmt := topS 19
abbrev s_any : Stmt := topS 20
abbrev s_of : Stmt := topS 21
abbrev s_lname : Stmt := topS 22
abbrev s_lnames : Stmt := topS 23
abbrev s_lform : Stmt := topS 24
abbrev s_lrows : Stmt := topS 25
abbrev s_subsets : Stmt := topS 26
abbrev s_told : Stmt := topS 27
abbrev s_placesR : Stmt := topS 28
abbrev s_sheetsR : Stmt := topS 29
abbrev s_lotsR : Stmt := topS 30
abbrev s_law : Stmt := topS 31
/-! ### what each promises -/
def Small (qs : Qs) : Prop := qs.length ≤ 4 ∧ ∀ q ∈ qs, q.2 ≤ 4
abbrev spOver (K : PySem.W.Frag) : Sp := Pf (α := List Nat) (fun ss => [dat K (.list (ss.map fun n : Nat => .int (n : Int)))]) (fun ss => ss.length ≤ 4 ∧ ∀ n ∈ ss, n ≤ 5) (fun ss => dat K (rowsT (grow (ss.map (rng 0)))))
abbrev spNames (K : PySem.W.Frag) (C : Addr) : Sp := Pf (α := Qs) (fun qs => [formR K C qs]) Small (fun qs => dat K (lotD (names qs)))
abbrev spTruths (K : PySem.W.Frag) (C : Addr) : Sp := Pf (α := Qs) (fun qs => [formR K C qs]) Small (fun qs => dat K (rowsT (grow (qs.map fun q => rng 0 q.2))))
abbrev spSheets (K : PySem.W.Frag) (C : Addr) : Sp := Pf (α := Qs) (fun qs => [formR K C qs]) Small (fun qs => dat K (rowsT (grow (qs.map fun q => rng (-1) (q.2 + 1)))))
def lotsD (l : List Str) : List PyData := sortD ((subs l).map lotD)
abbrev spWithin (K : PySem.W.Frag) : Sp := Pf (α := List Str) (fun l => [dat K (lotD l)]) (fun l => l.length ≤ 4) (fun l => dat K (.tuple (lotsD l)))
abbrev spLots (K : PySem.W.Frag) (C : Addr) : Sp := Pf (α := Qs) (fun qs => [formR K C qs]) Small (fun qs => dat K (.tuple (lotsD (names qs))))
abbrev spWithout (K : PySem.W.Frag) : Sp := Pf (α := List Str × List Str) (fun a => [dat K (lotD a.1), dat K (lotD a.2)]) (fun a => a.1.length ≤ 4 ∧ (∀ z ∈ a.1, Nm z) ∧ ∀ z ∈ a.2, Nm z) (fun a => dat K (lotD (a.1.filter fun z => !decide (z ∈ a.2))))
abbrev spSheetOf (K : PySem.W.Frag) (C : Addr) : Sp := Pf (α := Qs × List Str × List Int) (fun a => [formR K C a.1, dat K (lotD a.2.1), dat K (rowD a.2.2)]) (fun a => Small a.1 ∧ (∀ z ∈ names a.1, Nm z) ∧ ∀ z ∈ a.2.1, Nm z) (fun a => dat K (rowD (sheetL (names a.1) a.2.1 a.2.2)))
abbrev spLotOf (K : PySem.W.Frag) (C : Addr) : Sp := Pf (α := Qs × List Int) (fun a => [formR K C a.1, dat K (rowD a.2)]) (fun a => Small a.1) (fun a => dat K (lotD (lotL (names a.1) a.2)))
abbrev spBehind (K : PySem.W.Frag) (C : Addr) : Sp := Pf (α := Qs × List Int) (fun a => [formR K C a.1, dat K (rowD a.2)]) (fun a => Small a.1) (fun a => dat K (rowsT (behindL a.1 a.2)))
section
variable {P : Program} {w : World} {K : PySem.W.Frag} {mg : Str → Option Value} {base : Heap} {C_Form C_NoName C_BlankError : Addr}
theorem fldQ {σ : L2.St} {B : Hp} {te : TE} {qs : Qs} (K_Form : CalC P w K mg base "Form" C_Form ["questions"]) (h : De te σ B (formR K C_Form qs)) : De (tFld K te "questions") σ B (dat K (qsD qs)) :=
  De.fld h K_Form.c (K_Form.na _ (by simp)) rfl
theorem sc_tuplesOver : FnScope ["sizes", "found", "size", "ahead", "number"] ["sizes"] (defScope s_tuplesOver) := ⟨rfl, rfl, rfl, by decide +kernel, rfl, by decide +kernel, by decide +kernel⟩
theorem ok_tuplesOver (D : Def K mg "tuples_over" s_tuplesOver ["sizes"]) (n_range : mg "range" = none) (n_tuple : mg "tuple" = none) : Cal P w K mg base CX0 1 "tuples_over" s_tuplesOver ["sizes"] (spOver K) := by
  refine D.ok sc_tuplesOver (fun vs H Q E h => ?_) (fun cdv f A outer s H vs Q E hr h => ?_)
  · exact pf_len h fun _ => rfl
  replace h := pf1 h
  obtain ⟨v, B, sizes, rfl, hB, hv, ⟨few, small⟩, k⟩ := h
  refine ⟨_, (pss_cons (ps_set (i := 1) sc_tuplesOver.nd rfl (Or.inl rfl) (pe_lst (pa_cons (pe_tup pa_nil) pa_nil)))
    (pss_cons (ps_for PassesOwn.never rfl (pi_list (pv 0)) (pg_name (i := 2) sc_tuplesOver.nd rfl (Or.inr rfl)) (pss_one (ps_setLc2 (i := 1) (own := [("ahead", 3), ("number", 4)]) (vs1 := [4]) (g := gName 3) (g1 := gName 4) (tt := tYes) (tt1 := tYes) rfl sc_tuplesOver.nd rfl rfl (sw_true rfl rfl rfl (by decide +kernel)) (pi_list (pv 1)) (blkOk_by (own := [("ahead", 3), ("number", 4)]) (N := ["sizes", "found", "size", "ahead", "number"]) (sc := defScope s_tuplesOver) (by decide +kernel)) (by decide) (fun _ _ _ _ _ => (pg_name (i := 3) sc_tuplesOver.nd rfl (Or.inl rfl))) (fun _ _ _ _ _ => pts_nil) (fun _ _ _ _ _ => (pi_range1 rfl n_range (pa_cons (pv 2) pa_nil))) (fun _ _ _ _ _ => (pg_name (i := 4) sc_tuplesOver.nd rfl (Or.inl rfl))) (fun _ _ _ _ _ => pts_nil) (fun _ _ _ _ _ => (pe_op (r := rCatA K) op_catA (pv 3) (pe_tup (pa_cons (pv 4) pa_nil)))))))
    (pss_one (ps_ret (pe_callTy call_tuple_of (by rfl) n_tuple (by decide +kernel) (pa_cons (pv 1) pa_nil)))))), ?_⟩
  refine s_set (De.lstD (K := K) (.cons (De.tupD .nil (by show 0 ≤ sizeLine; decide)) .nil) (by show 1 ≤ sizeLine; decide)) hB fun v1 B1 H1 e1 h1 => ?_
  refine s_forS (Di.listM (K := K) (as := sizes) (f := fun n : Nat => .int (n : Int)) (.var (Mo.mo e1.bb hv) rfl)) e1.bh (fun i σ B => ∃ u v3 v4 v5, σ = [some v, some u, v3, v4, v5] ∧ dat K (rowsL (grow ((sizes.take i).map (rng 0)))) B u) (fun B' s => ⟨v1, _, _, _, rfl, Mo.mo s h1⟩) ?_ ?_
  · rintro B2 H2 e2 i R x σ' Bc Bn Hn hR ⟨u, v3, v4, v5, rfl, hu⟩ s e hx
    rw [List.getElem?_map] at hR
    obtain ⟨n, hn, rfl⟩ := Option.map_eq_some_iff.mp hR
    have hx := dat_int hx
    subst hx
    have n5 := small n (List.mem_of_getElem? hn)
    have i4 := (List.getElem?_eq_some_iff.mp hn).1
    have tk : (sizes.take (i + 1)).map (rng 0) = (sizes.take i).map (rng 0) ++ [rng 0 n] := by rw [take_snoc hn, List.map_append]; rfl
    have gl : (grow ((sizes.take (i + 1)).map (rng 0))).length ≤ 5 ^ 4 := by
      refine Nat.le_trans (grow_len (m := 5) _ fun l hl => ?_) (Nat.pow_le_pow_right (by decide) ?_)
      · obtain ⟨m, hm, rfl⟩ := List.mem_map.mp hl
        rw [rng_len]
        exact small m (List.mem_of_mem_take hm)
      · rw [List.length_map, List.length_take]
        omega
    have out : ∀ rows : List (List Int), (rows.flatMap fun a => (List.range n).map fun j : Nat => rowD (a ++ [0 + (j : Int)])) = (grow1 rows (rng 0 n)).map rowD := by
      intro rows
      unfold grow1 rng
      rw [List.map_flatMap]
      congr 1
      funext a
      rw [List.map_map, List.map_map]
      rfl
    refine s_setE (De.lc2D (K := K) (as := grow ((sizes.take i).map (rng 0))) (Di.listM (f := rowD) (.var (Mo.mo s hu) rfl)) (fun _ => List.range n) (fun _ j => dat K (.int (j : Int))) (fun a j => rowD (a ++ [0 + (j : Int)])) ?_ ?_) e.bh fun v6 B6 H6 e6 h6 => ⟨B6, e.trans e6, v6, _, _, _, rfl, ?_⟩
    · rw [out, List.length_map, ← grow_snoc, ← tk, sizeLine_eq]
      omega
    · intro a x7 B7 H7 ha _ _ h7
      refine ⟨_, fun Q q => q, rfl, Di.rng (.var (Dp.int _) rfl) (by omega), fun b x8 B8 H8 _ sm _ h8 => ⟨_, fun Q q => q, rfl, ?_⟩⟩
      have h8 := dat_int h8
      subst h8
      refine De.eq (d := .tuple (a.map .int ++ [.int (b : Int)])) (De.op (r := rCatA K) (De.var (Mo.mo sm h7) rfl) (De.tupD (ds := [.int (b : Int)]) (.cons (.var (Dp.int _) rfl) .nil) (by show 1 ≤ sizeLine; decide)) (Rv.catT (by rw [List.length_map, grow_row ha, List.length_map, List.length_take, sizeLine_eq]; show _ + 1 ≤ _; omega))) ?_
      unfold rowD
      rw [List.map_append, Int.zero_add]
      rfl
    · rw [out, ← grow_snoc, ← tk] at h6
      exact h6
  · rintro σ' B' H' e2 ⟨u, v3, v4, v5, rfl, hu⟩
    rw [List.length_map, List.take_length] at hu
    exact s_ret (De.tupleL (.var hu rfl)) e2.bh fun v B H e h => k v B H ((e1.trans e2).trans e) h
theorem sc_namesOf : FnScope ["form", "question"] ["form"] (defScope s_namesOf) := ⟨rfl, rfl, rfl, by decide +kernel, rfl, by decide +kernel, by decide +kernel⟩
theorem ok_namesOf (D : Def K mg "names_of" s_namesOf ["form"]) (n_tuple : mg "tuple" = none) (K_Form : CalC P w K mg base "Form" C_Form ["questions"]) : Cal P w K mg base CX0 1 "names_of" s_namesOf ["form"] (spNames K C_Form) := by
  refine D.ok sc_namesOf (fun vs H Q E h => ?_) (fun cdv f A outer s H vs Q E hr h => ?_)
  · exact pf_len h fun _ => rfl
  replace h := pf1 h
  obtain ⟨v, B, qs, rfl, hB, hv, sm, k⟩ := h
  refine ⟨_, (pss_one (ps_ret (pe_callTy call_tuple_of (by rfl) n_tuple (by decide +kernel) (pa_cons (pe_lc (own := [("question", 1)]) (g := gName 1) (tt := tYes) rfl sc_namesOf.nd (pi_tup (pe_fld (pv 0) rfl)) (blkOk_by (own := [("question", 1)]) (N := ["form", "question"]) (sc := defScope s_namesOf) (by decide +kernel)) (fun _ _ _ _ _ => (pg_name (i := 1) sc_namesOf.nd rfl (Or.inl rfl))) (fun _ _ _ _ _ => pts_nil) (fun _ _ _ _ _ => (pe_ix (r := rIxT K) ix_tup (pv 1) pe_int (fun _ _ => rfl)))) pa_nil)))), ?_⟩
  refine s_ret (De.eq (De.tupleL (K := K) (De.lcA (as := qs) (r := fun q => dat K (encQ q)) (Di.tupM (fldQ K_Form (.var hv rfl))) (fun q => .str q.1) (by have := sm.1; rw [sizeLine_eq]; omega) fun q x Bn Hn _ _ _ hx => ⟨_, fun Q z => z, rfl, .op (r := rIxT K) (.var hx rfl) .int (Rv.ixTD rfl)⟩)) (e := lotD (names qs)) ?_) hB k
  unfold lotD names
  rw [List.map_map]
  rfl
theorem sc_truths : FnScope ["form", "question"] ["form"] (defScope s_truths) := ⟨rfl, rfl, rfl, by decide +kernel, rfl, by decide +kernel, by decide +kernel⟩
theorem ok_truths (D : Def K mg "truths" s_truths ["form"]) (C_tuplesOver : Cal P w K mg base CX0 1 "tuples_over" s_tuplesOver ["sizes"] (spOver K)) (K_Form : CalC P w K mg base "Form" C_Form ["questions"]) : Cal P w K mg base CX0 2 "truths" s_truths ["form"] (spTruths K C_Form) := by
  refine D.ok sc_truths (fun vs H Q E h => ?_) (fun cdv f A outer s H vs Q E hr h => ?_)
  · exact pf_len h fun _ => rfl
  replace h := pf1 h
  obtain ⟨v, B, qs, rfl, hB, hv, sm, k⟩ := h
  refine ⟨_, (pss_one (ps_ret (pe_cal C_tuplesOver (hr.mono (by decide)) (by rfl) pass0 (pa_cons (pe_lc (own := [("question", 1)]) (g := gName 1) (tt := tYes) rfl sc_truths.nd (pi_tup (pe_fld (pv 0) rfl)) (blkOk_by (own := [("question", 1)]) (N := ["form", "question"]) (sc := defScope s_truths) (by decide +kernel)) (fun _ _ _ _ _ => (pg_name (i := 1) sc_truths.nd rfl (Or.inl rfl))) (fun _ _ _ _ _ => pts_nil) (fun _ _ _ _ _ => (pe_ix (r := rIxT K) ix_tup (pv 1) pe_int (fun _ _ => rfl)))) pa_nil)))), ?_⟩
  refine s_ret (De.conv (De.call (qs.map (·.2)) (.one (De.eq (De.lcA (K := K) (as := qs) (r := fun q => dat K (encQ q)) (Di.tupM (fldQ K_Form (.var hv rfl))) (fun q => .int (q.2 : Int)) (by have := sm.1; rw [sizeLine_eq]; omega) fun q x Bn Hn _ _ _ hx => ⟨_, fun Q z => z, rfl, .op (r := rIxT K) (.var hx rfl) .int (Rv.ixTD rfl)⟩) (by rw [List.map_map]; rfl))) ⟨by rw [List.length_map]; exact sm.1, fun n hn => ?_⟩) (S := dat K (rowsT (grow (qs.map fun q => rng 0 q.2)))) fun B v h => ?_) hB k
  · obtain ⟨q, hq, rfl⟩ := List.mem_map.mp hn
    exact Nat.le_succ_of_le (sm.2 q hq)
  · rw [List.map_map] at h
    exact h
theorem sc_allSheets : FnScope ["form", "moved", "question", "number", "one"] ["form"] (defScope s_allSheets) := ⟨rfl, rfl, rfl, by decide +kernel, rfl, by decide +kernel, by decide +kernel⟩
theorem ok_allSheets (D : Def K mg "all_sheets" s_allSheets ["form"]) (C_tuplesOver : Cal P w K mg base CX0 1 "tuples_over" s_tuplesOver ["sizes"] (spOver K)) (n_tuple : mg "tuple" = none) (K_Form : CalC P w K mg base "Form" C_Form ["questions"]) : Cal P w K mg base CX0 2 "all_sheets" s_allSheets ["form"] (spSheets K C_Form) := by
  refine D.ok sc_allSheets (fun vs H Q E h => ?_) (fun cdv f A outer s H vs Q E hr h => ?_)
  · exact pf_len h fun _ => rfl
  replace h := pf1 h
  obtain ⟨v, B, qs, rfl, hB, hv, sm, k⟩ := h
  refine ⟨_, (pss_cons (ps_set (i := 1) sc_allSheets.nd rfl (Or.inl rfl) (pe_cal C_tuplesOver (hr.mono (by decide)) (by rfl) pass0 (pa_cons (pe_lc (own := [("question", 2)]) (g := gName 2) (tt := tYes) rfl sc_allSheets.nd (pi_tup (pe_fld (pv 0) rfl)) (blkOk_by (own := [("question", 2)]) (N := ["form", "moved", "question", "number", "one"]) (sc := defScope s_allSheets) (by decide +kernel)) (fun _ _ _ _ _ => (pg_name (i := 2) sc_allSheets.nd rfl (Or.inl rfl))) (fun _ _ _ _ _ => pts_nil) (fun _ _ _ _ _ => (pe_op op_add (pe_ix (r := rIxT K) ix_tup (pv 2) pe_int (fun _ _ => rfl)) pe_int))) pa_nil)))
    (pss_one (ps_ret (pe_callTy call_tuple_of (by rfl) n_tuple (by decide +kernel) (pa_cons (pe_lc (own := [("one", 4)]) (g := gName 4) (tt := tYes) rfl sc_allSheets.nd (pi_tup (pv 1)) (blkOk_by (own := [("one", 4)]) (N := ["form", "moved", "question", "number", "one"]) (sc := defScope s_allSheets) (by decide +kernel)) (fun _ _ _ _ _ => (pg_name (i := 4) sc_allSheets.nd rfl (Or.inl rfl))) (fun _ _ _ _ _ => pts_nil) (fun _ _ _ _ _ => (pe_callTy (T := "tuple") (r := rTup K) call_tuple_of (by rfl) n_tuple (by decide +kernel) (pa_cons (pe_lc (own := [("number", 3)]) (g := gName 3) (wi := iTup K (tVar 4)) (tt := tYes) rfl sc_allSheets.nd (pi_tup (pv 4)) (by exact blkOk_by (own := [("number", 3)]) (N := ["form", "moved", "question", "number", "one"]) (sc := ⟨.function, [(".0", .local), ("one", .local), ("tuple", .globalImplicit)], false, false, []⟩) (by decide +kernel)) (fun _ _ _ _ _ => (pg_name (i := 3) sc_allSheets.nd rfl (Or.inl rfl))) (fun _ _ _ _ _ => pts_nil) (fun _ _ _ _ _ => (pe_op op_sub (pv 3) pe_int))) pa_nil)))) pa_nil))))), ?_⟩
  refine s_set (De.call (qs.map fun q => q.2 + 1) (.one (De.eq (De.lcA (K := K) (as := qs) (r := fun q => dat K (encQ q)) (Di.tupM (fldQ K_Form (.var hv rfl))) (fun q => .int ((q.2 : Int) + 1)) (by have := sm.1; rw [sizeLine_eq]; omega) fun q x Bn Hn _ _ _ hx => ⟨_, fun Q z => z, rfl, .op (.op (r := rIxT K) (.var hx rfl) .int (Rv.ixTD rfl)) .int Rv.I0⟩) (by rw [List.map_map]; rfl))) ⟨by rw [List.length_map]; exact sm.1, fun n hn => ?_⟩) hB fun v1 B1 H1 e1 h1 => ?_
  · obtain ⟨q, hq, rfl⟩ := List.mem_map.mp hn
    exact Nat.succ_le_succ (sm.2 q hq)
  have few : (grow ((qs.map fun q => q.2 + 1).map (rng 0))).length ≤ 5 ^ 4 := by
    refine Nat.le_trans (grow_len (m := 5) _ fun l hl => ?_) (Nat.pow_le_pow_right (by decide) (by rw [List.length_map, List.length_map]; exact sm.1))
    obtain ⟨m, hm, rfl⟩ := List.mem_map.mp hl
    obtain ⟨q, hq, rfl⟩ := List.mem_map.mp hm
    rw [rng_len]
    exact Nat.succ_le_succ (sm.2 q hq)
  have wide : ∀ r ∈ grow ((qs.map fun q => q.2 + 1).map (rng 0)), r.length ≤ 4 := fun r hr => by
    rw [grow_row hr, List.length_map, List.length_map]
    exact sm.1
  have down : (grow ((qs.map fun q => q.2 + 1).map (rng 0))).map (List.map fun i => i - 1) = grow (qs.map fun q => rng (-1) (q.2 + 1)) := by
    rw [grow_map, List.map_map, List.map_map]
    congr 2
    funext q
    show (rng 0 (q.2 + 1)).map (fun i => i - 1) = rng (-1) (q.2 + 1)
    unfold rng
    rw [List.map_map]
    congr 1
    funext i
    show 0 + (i : Int) - 1 = -1 + (i : Int)
    omega
  rw [← down] at k
  generalize grow ((qs.map fun q => q.2 + 1).map (rng 0)) = rows at h1 few wide k
  refine s_ret (De.eq (De.tupleL (K := K) (De.lcA (as := rows) (r := fun r => dat K (rowD r)) (Di.tupM (f := rowD) (.var h1 rfl)) (fun r => rowD (r.map fun i => i - 1)) (by rw [sizeLine_eq]; omega) fun r x Bn Hn hr _ _ hx => ⟨_, fun Q z => z, rfl, De.eq (De.tupleL (De.lcA (as := r) (r := fun i => dat K (.int i)) (Di.tupM (f := .int) (.var hx rfl)) (fun i => .int (i - 1)) ?_ fun i y Bm Hm _ _ _ hy => ⟨_, fun Q z => z, rfl, .op (.var hy rfl) .int Rv.I0⟩)) (by unfold rowD; rw [List.map_map]; rfl)⟩)) (e := rowsT (rows.map (List.map fun i => i - 1))) ?_) e1.bh fun v B H e h => k v B H (e1.trans e) h
  · have := wide r hr
    rw [sizeLine_eq]
    omega
  · unfold rowsT
    rw [List.map_map]
    rfl
theorem sc_lotsWithin : FnScope ["lot", "found", "name", "ahead"] ["lot"] (defScope s_lotsWithin) := ⟨rfl, rfl, rfl, by decide +kernel, rfl, by decide +kernel, by decide +kernel⟩
theorem ok_lotsWithin (D : Def K mg "lots_within" s_lotsWithin ["lot"]) (n_sorted : mg "sorted" = none) (n_tuple : mg "tuple" = none) : Cal P w K mg base CX0 1 "lots_within" s_lotsWithin ["lot"] (spWithin K) := by
  refine D.ok sc_lotsWithin (fun vs H Q E h => ?_) (fun cdv f A outer s H vs Q E hr h => ?_)
  · exact pf_len h fun _ => rfl
  replace h := pf1 h
  obtain ⟨v, B, l, rfl, hB, hv, few, k⟩ := h
  refine ⟨_, (pss_cons (ps_set (i := 1) sc_lotsWithin.nd rfl (Or.inl rfl) (pe_lst (pa_cons (pe_tup pa_nil) pa_nil)))
    (pss_cons (ps_for PassesOwn.never rfl (pi_tup (pv 0)) (pg_name (i := 2) sc_lotsWithin.nd rfl (Or.inr rfl)) (pss_one (ps_set (i := 1) sc_lotsWithin.nd rfl (Or.inl rfl) (pe_op op_catS (pv 1) (pe_lc (own := [("ahead", 3)]) (g := gName 3) (tt := tYes) rfl sc_lotsWithin.nd (pi_list (pv 1)) (blkOk_by (own := [("ahead", 3)]) (N := ["lot", "found", "name", "ahead"]) (sc := defScope s_lotsWithin) (by decide +kernel)) (fun _ _ _ _ _ => (pg_name (i := 3) sc_lotsWithin.nd rfl (Or.inl rfl))) (fun _ _ _ _ _ => pts_nil) (fun _ _ _ _ _ => (pe_op (r := rCatA K) op_catA (pv 3) (pe_tup (pa_cons (pv 2) pa_nil)))))))))
    (pss_one (ps_ret (pe_callTy call_tuple_of (by rfl) n_tuple (by decide +kernel) (pa_cons (pe_callB (cr_sortedD hr.units) (by rfl) n_sorted (by decide +kernel) (pa_cons (pv 1) pa_nil)) pa_nil)))))), ?_⟩
  refine s_set (De.lstD (K := K) (.cons (De.tupD .nil (by show 0 ≤ sizeLine; decide)) .nil) (by show 1 ≤ sizeLine; decide)) hB fun v1 B1 H1 e1 h1 => ?_
  refine s_forS (Di.tupM (K := K) (as := l) (f := PyData.str) (.var (Mo.mo e1.bb hv) rfl)) e1.bh (fun i σ B => ∃ u v3 v4, σ = [some v, some u, v3, v4] ∧ dat K (.list ((subs (l.take i)).map lotD)) B u) (fun B' s => ⟨v1, _, _, rfl, Mo.mo s h1⟩) ?_ ?_
  · rintro B2 H2 e2 i R x σ' Bc Bn Hn hR ⟨u, v3, v4, rfl, hu⟩ s e hx
    rw [List.getElem?_map] at hR
    obtain ⟨n, hn, rfl⟩ := Option.map_eq_some_iff.mp hR
    have i4 := (List.getElem?_eq_some_iff.mp hn).1
    have tk := take_snoc hn
    have sl := subs_len l i (by omega)
    have p4 : 2 ^ i ≤ 2 ^ 4 := Nat.pow_le_pow_right (by decide) (by omega)
    refine s_setE (De.op (r := rCatS K) (De.var (Mo.mo s hu) rfl) (De.lcA (K := K) (as := subs (l.take i)) (r := fun a => dat K (lotD a)) (Di.listM (f := lotD) (.var (Mo.mo s hu) rfl)) (fun a => lotD (a ++ [n])) (by rw [sl, sizeLine_eq]; omega) fun a y Bm Hm ha sm _ hy => ⟨_, fun Q z => z, rfl, ?_⟩) (Rv.catS (by rw [List.length_map, List.length_map, sl, sizeLine_eq]; omega))) e.bh fun v6 B6 H6 e6 h6 => ⟨B6, e.trans e6, v6, _, _, rfl, ?_⟩
    · refine De.eq (d := .tuple (a.map .str ++ [.str n])) (De.op (r := rCatA K) (De.var hy rfl) (De.tupD (ds := [.str n]) (.cons (.var (Mo.mo sm hx) rfl) .nil) (by show 1 ≤ sizeLine; decide)) (Rv.catT ?_)) ?_
      · rw [List.length_map, sizeLine_eq]
        have := subs_row ha
        show _ + 1 ≤ _
        rw [List.length_take] at this
        omega
      · unfold lotD
        rw [List.map_append]
        rfl
    · rw [tk, subs_snoc, List.map_append, List.map_map]
      exact h6
  · rintro σ' B' H' e2 ⟨u, v3, v4, rfl, hu⟩
    rw [List.length_map, List.take_length] at hu
    refine s_ret (De.tupleL (De.sorted (.var hu rfl) (alike_lots _) (ok_lots _) (depth_lots _))) e2.bh fun v B H e h => k v B H ((e1.trans e2).trans e) h
theorem sc_lots : FnScope ["form"] ["form"] (defScope s_lots) := ⟨rfl, rfl, rfl, by decide +kernel, rfl, by decide +kernel, by decide +kernel⟩
theorem ok_lots (D : Def K mg "lots" s_lots ["form"]) (C_lotsWithin : Cal P w K mg base CX0 1 "lots_within" s_lotsWithin ["lot"] (spWithin K)) (C_namesOf : Cal P w K mg base CX0 1 "names_of" s_namesOf ["form"] (spNames K C_Form)) (K_Form : CalC P w K mg base "Form" C_Form ["questions"]) : Cal P w K mg base CX0 2 "lots" s_lots ["form"] (spLots K C_Form) := by
  refine D.ok sc_lots (fun vs H Q E h => ?_) (fun cdv f A outer s H vs Q E hr h => ?_)
  · exact pf_len h fun _ => rfl
  replace h := pf1 h
  obtain ⟨v, B, qs, rfl, hB, hv, sm, k⟩ := h
  refine ⟨_, (pss_one (ps_ret (pe_cal C_lotsWithin (hr.mono (by decide)) (by rfl) pass0 (pa_cons (pe_cal C_namesOf (hr.mono (by decide)) (by rfl) pass0 (pa_cons (pv 0) pa_nil)) pa_nil)))), ?_⟩
  refine s_ret (De.call (names qs) (.one (De.call qs (.cons (.var hv rfl) .nil) sm)) ?_) hB k
  unfold names
  rw [List.length_map]
  exact sm.1
theorem sc_withoutNames : FnScope ["lot", "names", "name"] ["lot", "names"] (defScope s_withoutNames) := ⟨rfl, rfl, rfl, by decide +kernel, rfl, by decide +kernel, by decide +kernel⟩
theorem ok_withoutNames (D : Def K mg "without_names" s_withoutNames ["lot", "names"]) (n_tuple : mg "tuple" = none) : Cal P w K mg base CX0 1 "without_names" s_withoutNames ["lot", "names"] (spWithout K) := by
  refine D.ok sc_withoutNames (fun vs H Q E h => ?_) (fun cdv f A outer s H vs Q E hr h => ?_)
  · exact pf_len h fun _ => rfl
  replace h := pf2 h
  obtain ⟨v, v1, B, ⟨l, ns⟩, rfl, hB, hv, hv1, ⟨few, nl, nn⟩, k⟩ := h
  refine ⟨_, (pss_one (ps_ret (pe_callTy call_tuple_of (by rfl) n_tuple (by decide +kernel) (pa_cons (pe_lc (own := [("name", 2)]) (g := gName 2) rfl sc_withoutNames.nd (pi_tup (pv 0)) (blkOk_by (own := [("name", 2)]) (N := ["lot", "names", "name"]) (sc := defScope s_withoutNames) (by decide +kernel)) (fun _ _ _ _ _ => (pg_name (i := 2) sc_withoutNames.nd rfl (Or.inl rfl))) (fun _ _ _ _ _ => pts_one (pt_cmpR (r := rInT K true) (op_notInT hr.u65) (pv 2) (pv 1) rfl)) (fun _ _ _ _ _ => (pv 2))) pa_nil)))), ?_⟩
  refine s_ret (De.eq (De.tupleL (K := K) (De.lcD (as := l) (r := fun z => dat K (.str z)) (Di.tupM (f := PyData.str) (.var hv rfl)) (fun z => !decide (z ∈ ns)) (fun z => .str z) (by have few : l.length ≤ 4 := few; rw [sizeLine_eq]; omega) fun z x Bn Hn hz s _ hx => ⟨_, fun Q z => z, rfl, Dt.eq (Dt.tB (De.op (r := rInT K true) (.var hx rfl) (.var (Mo.mo s hv1) rfl) (Rv.notInT (shaped_str (nl z hz)) (shaped_lot nn)))) (by rw [any_strs]), fun _ => .var hx rfl⟩)) rfl) hB k
theorem sc_sheetOf : FnScope ["form", "lot", "truth", "name", "answer"] ["form", "lot", "truth"] (defScope s_sheetOf) := ⟨rfl, rfl, rfl, by decide +kernel, rfl, by decide +kernel, by decide +kernel⟩
theorem ok_sheetOf (D : Def K mg "sheet_of" s_sheetOf ["form", "lot", "truth"]) (C_namesOf : Cal P w K mg base CX0 1 "names_of" s_namesOf ["form"] (spNames K C_Form)) (n_zip : mg "zip" = none) (n_tuple : mg "tuple" = none) : Cal P w K mg base CX0 2 "sheet_of" s_sheetOf ["form", "lot", "truth"] (spSheetOf K C_Form) := by
  refine D.ok sc_sheetOf (fun vs H Q E h => ?_) (fun cdv f A outer s H vs Q E hr h => ?_)
  · exact pf_len h fun _ => rfl
  replace h := pf3 h
  obtain ⟨v, v1, v2, B, ⟨qs, lot, truth⟩, rfl, hB, hv, hv1, hv2, ⟨sm, nq, nl⟩, k⟩ := h
  refine ⟨_, (pss_one (ps_ret (pe_callTy call_tuple_of (by rfl) n_tuple (by decide +kernel) (pa_cons (pe_lc (own := [("name", 3), ("answer", 4)]) (g := gTup K 2 (gCons (gName 3) (gCons (gName 4) gNil))) (tt := tYes) rfl sc_sheetOf.nd (RZ.pi_zipA (by rfl) n_zip (pa_cons (pe_cal C_namesOf (hr.mono (by decide)) (by rfl) pass0 (pa_cons (pv 0) pa_nil)) (pa_cons (pv 2) pa_nil))) (blkOk_by (own := [("name", 3), ("answer", 4)]) (N := ["form", "lot", "truth", "name", "answer"]) (sc := defScope s_sheetOf) (by decide +kernel)) (fun _ _ _ _ _ => (pg_tup rfl (pgs_cons (pg_name (i := 3) sc_sheetOf.nd rfl (Or.inl rfl)) (pgs_cons (pg_name (i := 4) sc_sheetOf.nd rfl (Or.inl rfl)) pgs_nil)))) (fun _ _ _ _ _ => pts_nil) (fun _ _ _ _ _ => (pe_ifExp (pt_cmpR (r := rInT K false) (op_inT hr.u65) (pv 3) (pv 1) rfl) (pe_un un_neg pe_int) (pv 4)))) pa_nil)))), ?_⟩
  have small : ((names qs).zip truth).length < sizeLine := by
    rw [List.length_zip, sizeLine_eq]
    unfold names
    rw [List.length_map]
    have : qs.length ≤ 4 := sm.1
    omega
  refine s_ret (De.eq (De.tupleL (K := K) (De.lcA (as := (names qs).zip truth) (r := fun p => tupR K [dat K (.str p.1), dat K (.int p.2)]) (Di.zipTM (f := PyData.str) (g := PyData.int) (De.call qs (.cons (.var hv rfl) .nil) sm) (.var hv2 rfl)) (fun p => .int (if p.1 ∈ lot then -1 else p.2)) small fun p x Bn Hn hp s sh hx => ?_)) ?_) hB k
  · obtain ⟨y, z, hy, hz, go⟩ := gTup2 sh hx
    have hn := nq p.1 (List.of_mem_zip hp).1
    refine ⟨_, fun Q q => go Q q, rfl, De.eq (De.iteD (b := decide (p.1 ∈ lot)) (Dt.eq (Dt.tB (De.op (r := rInT K false) (.var hy rfl) (.var (Mo.mo s hv1) rfl) (Rv.inT (shaped_str hn) (shaped_lot nl)))) (by rw [any_strs])) (fun _ => De.negI .int) (fun _ => .var hz rfl)) ?_⟩
    by_cases c : p.1 ∈ lot
    · simp [c]
    · simp [c]
  · unfold rowD sheetL
    rw [List.map_map]
    rfl
theorem sc_lotOf : FnScope ["form", "sheet", "name", "answer"] ["form", "sheet"] (defScope s_lotOf) := ⟨rfl, rfl, rfl, by decide +kernel, rfl, by decide +kernel, by decide +kernel⟩
theorem ok_lotOf (D : Def K mg "lot_of" s_lotOf ["form", "sheet"]) (C_namesOf : Cal P w K mg base CX0 1 "names_of" s_namesOf ["form"] (spNames K C_Form)) (n_zip : mg "zip" = none) (n_tuple : mg "tuple" = none) : Cal P w K mg base CX0 2 "lot_of" s_lotOf ["form", "sheet"] (spLotOf K C_Form) := by
  refine D.ok sc_lotOf (fun vs H Q E h => ?_) (fun cdv f A outer s H vs Q E hr h => ?_)
  · exact pf_len h fun _ => rfl
  replace h := pf2 h
  obtain ⟨v, v1, B, ⟨qs, sheet⟩, rfl, hB, hv, hv1, sm, k⟩ := h
  refine ⟨_, (pss_one (ps_ret (pe_callTy call_tuple_of (by rfl) n_tuple (by decide +kernel) (pa_cons (pe_lc (own := [("name", 2), ("answer", 3)]) (g := gTup K 2 (gCons (gName 2) (gCons (gName 3) gNil))) rfl sc_lotOf.nd (RZ.pi_zipA (by rfl) n_zip (pa_cons (pe_cal C_namesOf (hr.mono (by decide)) (by rfl) pass0 (pa_cons (pv 0) pa_nil)) (pa_cons (pv 1) pa_nil))) (blkOk_by (own := [("name", 2), ("answer", 3)]) (N := ["form", "sheet", "name", "answer"]) (sc := defScope s_lotOf) (by decide +kernel)) (fun _ _ _ _ _ => (pg_tup rfl (pgs_cons (pg_name (i := 2) sc_lotOf.nd rfl (Or.inl rfl)) (pgs_cons (pg_name (i := 3) sc_lotOf.nd rfl (Or.inl rfl)) pgs_nil)))) (fun _ _ _ _ _ => pts_one (pt_cmpR op_eq (pv 3) (pe_un un_neg pe_int) (nomark _))) (fun _ _ _ _ _ => (pv 2))) pa_nil)))), ?_⟩
  have small : ((names qs).zip sheet).length < sizeLine := by
    rw [List.length_zip, sizeLine_eq]
    unfold names
    rw [List.length_map]
    have : qs.length ≤ 4 := sm.1
    omega
  refine s_ret (De.eq (De.tupleL (K := K) (De.lcD (as := (names qs).zip sheet) (r := fun p => tupR K [dat K (.str p.1), dat K (.int p.2)]) (Di.zipTM (f := PyData.str) (g := PyData.int) (De.call qs (.cons (.var hv rfl) .nil) sm) (.var hv1 rfl)) (fun p => decide (p.2 = -1)) (fun p => .str p.1) small fun p x Bn Hn hp s sh hx => ?_)) ?_) hB k
  · obtain ⟨y, z, hy, hz, go⟩ := gTup2 sh hx
    exact ⟨_, fun Q q => go Q q, rfl, Dt.tB (De.op (r := rEq) (.var hz rfl) (De.negI .int) Rv.eqI), fun _ => .var hy rfl⟩
  · unfold lotD lotL
    rw [List.map_map]
    rfl
end
end K04

set_option Elab.async false
set_option linter.all false
set_option maxRecDepth 100000
set_option maxHeartbeats 4000000
/-! K04b: what is behind a sheet, where a name stands; the law's own rows and lots. -/
namespace K04
open PySem PySem.Spec PyProof.Rows L2 Wb Wv Fm
theorem grown_rows (rows : List (List Int)) (vals : List Int) : (rows.flatMap fun a => vals.map fun v => rowD (a ++ [v])) = (grow1 rows vals).map rowD := by
  unfold grow1
  rw [List.map_flatMap]
  congr 1
  funext a
  rw [List.map_map]
  rfl
/-- where a name stands -/
def placeD (ns : List Str) (d : PyData) : Option Nat := ns.findIdx? fun z => PyData.eqv (.str z) d
def spPlace (K : PySem.W.Frag) (C CN : Addr) : Sp := fun vs H Q E => ∃ (x y : V) (B : Hp) (qs : Qs) (d : PyData), vs = [x, y] ∧ Same B H ∧ formR K C qs B x ∧ dat K d B y ∧ Small qs ∧ (∀ z ∈ names qs, Nm z) ∧ SeqAt.shaped d = true ∧
  (∀ i, placeD (names qs) d = some i → ∀ B' H', Ext B H B' H' → Q (.int (i : Int)) H') ∧ (placeD (names qs) d = none → ∀ B' H' dx, Ext B H B' H' → H' dx = none → E (.ref CN) (some dx) (upd H' dx (.xd [("name", y)])))
def spAnswers (K : PySem.W.Frag) (C CN : Addr) : Sp := fun vs H Q E => ∃ (x y : V) (B : Hp) (qs : Qs) (d : PyData), vs = [x, y] ∧ Same B H ∧ formR K C qs B x ∧ dat K d B y ∧ Small qs ∧ (∀ z ∈ names qs, Nm z) ∧ SeqAt.shaped d = true ∧
  (∀ i q, placeD (names qs) d = some i → qs[i]? = some q → ∀ B' H', Ext B H B' H' → Q (.int (q.2 : Int)) H') ∧ (placeD (names qs) d = none → ∀ B' H' dx, Ext B H B' H' → H' dx = none → E (.ref CN) (some dx) (upd H' dx (.xd [("name", y)])))
abbrev sp_lrows (K : PySem.W.Frag) : Sp := Pf (α := Qs × Int) (fun a => [dat K (qsD a.1), dat K (.int a.2)]) (fun a => Small a.1 ∧ -1 ≤ a.2 ∧ a.2 ≤ 0) (fun a => dat K (rowsL (grow (a.1.map fun q => rng a.2 ((q.2 : Int) - a.2).toNat))))
def lotsL (l : List Str) : PyData := .list (lotsD l)
abbrev sp_subsets (K : PySem.W.Frag) : Sp := Pf (α := Bool × List Str) (fun a => [dat K (if a.1 then lotD a.2 else .list (a.2.map .str))]) (fun a => a.2.length ≤ 4) (fun a => dat K (lotsL a.2))
section
variable {P : Program} {w : World} {K : PySem.W.Frag} {mg : Str → Option Value} {base : Heap} {C_Form C_NoName C_BlankError : Addr}
theorem sc_truthsBehind : FnScope ["form", "sheet", "found", "question", "answer", "open_to", "ahead", "number"] ["form", "sheet"] (defScope s_truthsBehind) := ⟨rfl, rfl, rfl, by decide +kernel, rfl, by decide +kernel, by decide +kernel⟩
theorem ok_truthsBehind (D : Def K mg "truths_behind" s_truthsBehind ["form", "sheet"]) (n_zip : mg "zip" = none) (n_range : mg "range" = none) (n_list : mg "list" = none) (n_tuple : mg "tuple" = none) (K_Form : CalC P w K mg base "Form" C_Form ["questions"]) : Cal P w K mg base CX0 1 "truths_behind" s_truthsBehind ["form", "sheet"] (spBehind K C_Form) := by
  refine D.ok sc_truthsBehind (fun vs H Q E h => ?_) (fun cdv f A outer s H vs Q E hr h => ?_)
  · exact pf_len h fun _ => rfl
  replace h := pf2 h
  obtain ⟨v, v1, B, ⟨qs, sheet⟩, rfl, hB, hv, hv1, sm, k⟩ := h
  refine ⟨_, (pss_cons (ps_set (i := 2) sc_truthsBehind.nd rfl (Or.inl rfl) (pe_lst (pa_cons (pe_tup pa_nil) pa_nil)))
    (pss_cons (ps_for PassesOwn.never rfl (RZ.pi_zipA (by rfl) n_zip (pa_cons (pe_fld (pv 0) rfl) (pa_cons (pv 1) pa_nil))) (pg_tup rfl (pgs_cons (pg_name (i := 3) sc_truthsBehind.nd rfl (Or.inl rfl)) (pgs_cons (pg_name (i := 4) sc_truthsBehind.nd rfl (Or.inl rfl)) pgs_nil))) (pss_cons (ps_set (i := 5) sc_truthsBehind.nd rfl (Or.inr rfl) (pe_ifExp (pt_cmpR op_eq (pv 4) (pe_un un_neg pe_int) (nomark _)) (pe_listRg rfl (by rfl) n_list (prg_1 (by rfl) n_range (pe_ix ix_tup (pv 3) pe_int (fun _ _ => rfl)))) (pe_lst (pa_cons (pv 4) pa_nil))))
      (pss_one (ps_setLc2 (i := 2) (own := [("ahead", 6), ("number", 7)]) (vs1 := [7]) (g := gName 6) (g1 := gName 7) (wi1 := iList K (tVar 5)) (tt := tYes) (tt1 := tYes) rfl sc_truthsBehind.nd rfl rfl (sw_true rfl rfl rfl (by decide +kernel)) (pi_list (pv 2)) (blkOk_by (own := [("ahead", 6), ("number", 7)]) (N := ["form", "sheet", "found", "question", "answer", "open_to", "ahead", "number"]) (sc := defScope s_truthsBehind) (by decide +kernel)) (by decide) (fun _ _ _ _ _ => (pg_name (i := 6) sc_truthsBehind.nd rfl (Or.inl rfl))) (fun _ _ _ _ _ => pts_nil) (fun _ _ _ _ _ => (pi_list (pv 5))) (fun _ _ _ _ _ => (pg_name (i := 7) sc_truthsBehind.nd rfl (Or.inl rfl))) (fun _ _ _ _ _ => pts_nil) (fun _ _ _ _ _ => (pe_op (r := rCatA K) op_catA (pv 6) (pe_tup (pa_cons (pv 7) pa_nil))))))))
    (pss_one (ps_ret (pe_callTy call_tuple_of (by rfl) n_tuple (by decide +kernel) (pa_cons (pv 2) pa_nil)))))), ?_⟩
  have few : qs.length ≤ 4 := sm.1
  have small : ∀ q ∈ qs, q.2 ≤ 4 := sm.2
  have k : ∀ (v : V) (B' H' : Hp), Ext B H B' H' → dat K (rowsT (behindL qs sheet)) B' v → Q v H' := k
  unfold behindL at k
  refine s_set (De.lstD (K := K) (.cons (De.tupD .nil (by show 0 ≤ sizeLine; decide)) .nil) (by show 1 ≤ sizeLine; decide)) hB fun v2 B1 H1 e1 h2 => ?_
  refine s_forS (Di.zipTM (K := K) (as := qs) (bs := sheet) (f := encQ) (g := PyData.int) (fldQ K_Form (.var (Mo.mo e1.bb hv) rfl)) (.var (Mo.mo e1.bb hv1) rfl)) e1.bh (fun i σ B => ∃ u v3 v4 v5 v6 v7, σ = [some v, some v1, some u, v3, v4, v5, v6, v7] ∧ dat K (rowsL (grow (((qs.zip sheet).take i).map fun p => if p.2 = -1 then rng 0 p.1.2 else [p.2]))) B u) (fun B' s => ⟨v2, _, _, _, _, _, rfl, Mo.mo s h2⟩) ?_ ?_
  · rintro B2 H2 e2 i R x σ' Bc Bn Hn hR ⟨u, v3, v4, v5, v6, v7, rfl, hu⟩ s e hx
    rw [List.getElem?_map] at hR
    obtain ⟨p, hp, rfl⟩ := Option.map_eq_some_iff.mp hR
    have i4 : i < 4 := by
      have := (List.getElem?_eq_some_iff.mp hp).1
      rw [List.length_zip] at this
      omega
    have q4 : p.1.2 ≤ 4 := small p.1 (List.of_mem_zip (List.mem_of_getElem? hp)).1
    obtain ⟨y, z, hy, hz, go⟩ := gTup2 e.bh hx
    refine go _ ?_
    have tk : ((qs.zip sheet).take (i + 1)).map (fun p => if p.2 = -1 then rng 0 p.1.2 else [p.2]) = ((qs.zip sheet).take i).map (fun p => if p.2 = -1 then rng 0 p.1.2 else [p.2]) ++ [if p.2 = -1 then rng 0 p.1.2 else [p.2]] := by rw [take_snoc hp, List.map_append]; rfl
    have gl : (grow (((qs.zip sheet).take (i + 1)).map fun p => if p.2 = -1 then rng 0 p.1.2 else [p.2])).length ≤ 4 ^ 4 := by
      refine Nat.le_trans (grow_len (m := 4) _ fun l hl => ?_) (Nat.pow_le_pow_right (by decide) ?_)
      · obtain ⟨m, hm, rfl⟩ := List.mem_map.mp hl
        by_cases c : m.2 = -1
        · rw [if_pos c, rng_len]
          exact small m.1 (List.of_mem_zip (List.mem_of_mem_take hm)).1
        · rw [if_neg c]
          exact Nat.le_add_left 1 3
      · rw [List.length_map, List.length_take]
        omega
    have rl : ∀ a ∈ grow (((qs.zip sheet).take i).map fun p => if p.2 = -1 then rng 0 p.1.2 else [p.2]), a.length ≤ 4 := fun a ha => by
      rw [grow_row ha, List.length_map, List.length_take]
      omega
    rw [tk, grow_snoc] at gl
    rw [tk, grow_snoc]
    generalize grow (((qs.zip sheet).take i).map fun p => if p.2 = -1 then rng 0 p.1.2 else [p.2]) = rows at hu gl rl
    refine s_set (De.eq (De.iteD (K := K) (b := decide (p.2 = -1)) (Dt.tB (De.op (r := rEq) (.var hz rfl) (De.negI .int) Rv.eqI)) (fun _ => De.listRg (De.op (r := rIxT K) (.var hy rfl) .int (Rv.ixTD rfl)) (Nat.le_trans q4 (by decide))) (fun _ => De.lstD (.cons (.var hz rfl) .nil) (by show 1 ≤ sizeLine; decide))) (e := .list ((if p.2 = -1 then rng 0 p.1.2 else [p.2]).map .int)) ?_) e.bh fun v8 B8 H8 e8 h8 => ?_
    · by_cases c : p.2 = -1
      · simp [c, rng]
      · simp [c]
    generalize (if p.2 = -1 then rng 0 p.1.2 else [p.2]) = vals at gl h8
    refine s_setE (De.eq (De.lc2D (K := K) (as := rows) (Di.listM (f := rowD) (.var (Mo.mo (s.trans e8.bb) hu) rfl)) (fun _ => vals) (fun _ v => dat K (.int v)) (fun a v => rowD (a ++ [v])) ?_ ?_) (e := rowsL (grow1 rows vals)) (by unfold rowsL; rw [grown_rows])) e8.bh fun v9 B9 H9 e9 h9 => ⟨B9, (e.trans e8).trans e9, v9, _, _, _, _, _, rfl, h9⟩
    · rw [grown_rows, List.length_map, sizeLine_eq]
      omega
    · intro a x7 B7 H7 ha s7 _ h7
      refine ⟨_, fun Q q => q, rfl, Di.listM (K := K) (f := PyData.int) (.var (Mo.mo s7 h8) rfl), fun b x8 B8 H8 _ sm _ h8 => ⟨_, fun Q q => q, rfl, ?_⟩⟩
      refine De.eq (d := .tuple (a.map .int ++ [.int b])) (De.op (r := rCatA K) (De.var (Mo.mo sm h7) rfl) (De.tupD (ds := [.int b]) (.cons (.var h8 rfl) .nil) (by show 1 ≤ sizeLine; decide)) (Rv.catT (by have := rl a ha; rw [List.length_map, sizeLine_eq]; show _ + 1 ≤ _; omega))) ?_
      unfold rowD
      rw [List.map_append]
      rfl
  · rintro σ' B' H' e2 ⟨u, v3, v4, v5, v6, v7, rfl, hu⟩
    rw [List.length_map, List.take_length] at hu
    exact s_ret (De.tupleL (.var hu rfl)) e2.bh fun v B H e h => k v B H ((e1.trans e2).trans e) h
theorem sc_lrows : FnScope ["questions", "least", "rows", "name", "many", "longer", "row", "answer"] ["questions", "least"] (defScope s_lrows) := ⟨rfl, rfl, rfl, by decide +kernel, rfl, by decide +kernel, by decide +kernel⟩
theorem ok_lrows (D : Def K mg "_law_rows" s_lrows ["questions", "least"]) (n_range : mg "range" = none) : Cal P w K mg base CX0 1 "_law_rows" s_lrows ["questions", "least"] (sp_lrows K) := by
  refine D.ok sc_lrows (fun vs H Q E h => ?_) (fun cdv f A outer s H vs Q E hr h => ?_)
  · exact pf_len h fun _ => rfl
  replace h := pf2 h
  obtain ⟨v, v1, B, ⟨qs, lo⟩, rfl, hB, hv, hv1, ⟨sm, l1, l2⟩, k⟩ := h
  refine ⟨_, (pss_cons (ps_set (i := 2) sc_lrows.nd rfl (Or.inl rfl) (pe_lst (pa_cons (pe_tup pa_nil) pa_nil)))
    (pss_cons (ps_for PassesOwn.never rfl (pi_tup (pv 0)) (pg_tup rfl (pgs_cons (pg_name (i := 3) sc_lrows.nd rfl (Or.inl rfl)) (pgs_cons (pg_name (i := 4) sc_lrows.nd rfl (Or.inl rfl)) pgs_nil))) (pss_cons (ps_set (i := 5) sc_lrows.nd rfl (Or.inl rfl) (pe_lst pa_nil))
      (pss_cons (ps_for PassesOwn.never rfl (pi_list (pv 2)) (pg_name (i := 6) sc_lrows.nd rfl (Or.inr rfl)) (pss_one (ps_set (i := 5) sc_lrows.nd rfl (Or.inl rfl) (pe_op op_catS (pv 5) (pe_lc (own := [("answer", 7)]) (g := gName 7) (tt := tYes) rfl sc_lrows.nd (pi_range2 (by rfl) n_range (pa_cons (pv 1) (pa_cons (pv 4) pa_nil))) (blkOk_by (own := [("answer", 7)]) (N := ["questions", "least", "rows", "name", "many", "longer", "row", "answer"]) (sc := defScope s_lrows) (by decide +kernel)) (fun _ _ _ _ _ => (pg_name (i := 7) sc_lrows.nd rfl (Or.inl rfl))) (fun _ _ _ _ _ => pts_nil) (fun _ _ _ _ _ => (pe_op (r := rCatA K) op_catA (pv 6) (pe_tup (pa_cons (pv 7) pa_nil)))))))))
      (pss_one (ps_set (i := 2) sc_lrows.nd rfl (Or.inl rfl) (pv 5))))))
    (pss_one (ps_ret (pv 2))))), ?_⟩
  have few : qs.length ≤ 4 := sm.1
  have small : ∀ q ∈ qs, q.2 ≤ 4 := sm.2
  have l1 : -1 ≤ lo := l1
  have l2 : lo ≤ 0 := l2
  have hv1 := dat_int hv1
  subst hv1
  refine s_set (De.lstD (K := K) (.cons (De.tupD .nil (by show 0 ≤ sizeLine; decide)) .nil) (by show 1 ≤ sizeLine; decide)) hB fun v2 B1 H1 e1 h2 => ?_
  refine s_forS (Di.tupM (K := K) (as := qs) (f := encQ) (.var (Mo.mo e1.bb hv) rfl)) e1.bh (fun i σ B => ∃ u v3 v4 v5 v6 v7, σ = [some v, some (.int lo), some u, v3, v4, v5, v6, v7] ∧ dat K (rowsL (grow ((qs.take i).map fun q => rng lo ((q.2 : Int) - lo).toNat))) B u) (fun B' s => ⟨v2, _, _, _, _, _, rfl, Mo.mo s h2⟩) ?_ ?_
  · rintro B2 H2 e2 i R x σ' Bc Bn Hn hR ⟨u, v3, v4, v5, v6, v7, rfl, hu⟩ s e hx
    rw [List.getElem?_map] at hR
    obtain ⟨q, hq, rfl⟩ := Option.map_eq_some_iff.mp hR
    have i4 : i < 4 := by
      have := (List.getElem?_eq_some_iff.mp hq).1
      omega
    have q4 : q.2 ≤ 4 := small q (List.mem_of_getElem? hq)
    obtain ⟨y, z, hy, hz, go⟩ := gTup2 e.bh (dat_pair hx)
    refine go _ ?_
    have hz := dat_int hz
    subst hz
    have tk : (qs.take (i + 1)).map (fun q => rng lo ((q.2 : Int) - lo).toNat) = (qs.take i).map (fun q => rng lo ((q.2 : Int) - lo).toNat) ++ [rng lo ((q.2 : Int) - lo).toNat] := by rw [take_snoc hq, List.map_append]; rfl
    have gl : (grow ((qs.take i).map fun q => rng lo ((q.2 : Int) - lo).toNat)).length ≤ 5 ^ 4 := by
      refine Nat.le_trans (grow_len (m := 5) _ fun l hl => ?_) (Nat.pow_le_pow_right (by decide) ?_)
      · obtain ⟨m, hm, rfl⟩ := List.mem_map.mp hl
        rw [rng_len]
        have := small m (List.mem_of_mem_take hm)
        omega
      · rw [List.length_map, List.length_take]
        omega
    have rl : ∀ a ∈ grow ((qs.take i).map fun q => rng lo ((q.2 : Int) - lo).toNat), a.length ≤ 4 := fun a ha => by
      rw [grow_row ha, List.length_map, List.length_take]
      omega
    rw [tk, grow_snoc]
    generalize grow ((qs.take i).map fun q => rng lo ((q.2 : Int) - lo).toNat) = rows at hu gl rl
    refine s_set (De.lstD (K := K) .nil (by show 0 ≤ sizeLine; decide)) e.bh fun v8 B8 H8 e8 h8 => ?_
    refine s_forS (Di.listM (K := K) (as := rows) (f := rowD) (.var (Mo.mo (s.trans e8.bb) hu) rfl)) e8.bh (fun j σ B => ∃ u5 v6 v7, σ = [some v, some (.int lo), some u, some y, some (.int (q.2 : Int)), some u5, v6, v7] ∧ dat K (rowsL (grow1 (rows.take j) (rng lo ((q.2 : Int) - lo).toNat))) B u5) (fun B' s => ⟨v8, _, _, rfl, Mo.mo s h8⟩) ?_ ?_
    · rintro B3 H3 e3 j R x σ' Bc Bm Hm hR ⟨u5, v6, v7, rfl, h5⟩ s' em hx
      rw [List.getElem?_map] at hR
      obtain ⟨a, ha, rfl⟩ := Option.map_eq_some_iff.mp hR
      have a4 := rl a (List.mem_of_getElem? ha)
      have len : (grow1 (rows.take j) (rng lo ((q.2 : Int) - lo).toNat)).length ≤ 5 ^ 4 * 5 := by
        rw [grow1_len, rng_len, List.length_take]
        exact Nat.mul_le_mul (by omega) (by omega)
      refine s_setE (De.op (r := rCatS K) (.var (Mo.mo s' h5) rfl) (De.lcA (K := K) (as := List.range ((q.2 : Int) - lo).toNat) (r := fun m => dat K (.int (lo + (m : Int)))) (Di.rng2 (.cons (.var (Dp.int _) rfl) (.cons (.var (Dp.int _) rfl) .nil)) (by omega)) (fun m => rowD (a ++ [lo + (m : Int)])) (by rw [List.length_range, sizeLine_eq]; omega) fun m x7 B7 H7 _ s7 _ h7 => ⟨_, fun Q q => q, rfl, ?_⟩) (Rv.catS (by rw [List.length_map, List.length_map, List.length_range, sizeLine_eq]; omega))) em.bh fun v9 B9 H9 e9 h9 => ⟨B9, em.trans e9, v9, _, _, rfl, ?_⟩
      · have h7 := dat_int h7
        subst h7
        refine De.eq (d := .tuple (a.map .int ++ [.int (lo + (m : Int))])) (De.op (r := rCatA K) (De.var (Mo.mo s7 hx) rfl) (De.tupD (ds := [.int (lo + (m : Int))]) (.cons (.var (Dp.int _) rfl) .nil) (by show 1 ≤ sizeLine; decide)) (Rv.catT (by rw [List.length_map, sizeLine_eq]; show _ + 1 ≤ _; omega))) ?_
        unfold rowD
        rw [List.map_append]
        rfl
      · have e : grow1 (rows.take (j + 1)) (rng lo ((q.2 : Int) - lo).toNat) = grow1 (rows.take j) (rng lo ((q.2 : Int) - lo).toNat) ++ (List.range ((q.2 : Int) - lo).toNat).map fun m : Nat => a ++ [lo + (m : Int)] := by
          unfold grow1 rng
          rw [take_snoc ha, List.flatMap_append]
          simp
        rw [e]
        unfold rowsL
        rw [List.map_append, List.map_map]
        exact h9
    · rintro σ' B' H' e3 ⟨u5, v6, v7, rfl, h5⟩
      rw [List.length_map, List.take_length] at h5
      exact s_setE (De.var h5 rfl) e3.bh fun v9 B9 H9 e9 h9 => ⟨B9, ((e.trans e8).trans e3).trans e9, v9, _, _, _, _, _, rfl, h9⟩
  · rintro σ' B' H' e2 ⟨u, v3, v4, v5, v6, v7, rfl, hu⟩
    rw [List.length_map, List.take_length] at hu
    exact s_ret (.var hu rfl) e2.bh fun v B H e h => k v B H ((e1.trans e2).trans e) h
theorem sc_placeOf : FnScope ["form", "name", "place", "question"] ["form", "name"] (defScope s_placeOf) := ⟨rfl, rfl, rfl, by decide +kernel, rfl, by decide +kernel, by decide +kernel⟩
theorem ok_placeOf (D : Def K mg "place_of" s_placeOf ["form", "name"]) (n_enumerate : mg "enumerate" = none) (Z_NoName : Err P w K mg base "NoName" "name" C_NoName topK) (K_Form : CalC P w K mg base "Form" C_Form ["questions"]) : Cal P w K mg base (L2.CX P w) 3 "place_of" s_placeOf ["form", "name"] (spPlace K C_Form C_NoName) := by
  refine D.okX sc_placeOf (fun vs H Q E h => ?_) (fun cdv f A outer s H vs Q E hr h => ?_)
  · obtain ⟨v, v1, B, qs, d, rfl, _⟩ := h
    rfl
  obtain ⟨v, v1, B, qs, d, rfl, hB, hv, hv1, sm, nm, sd, kr, kx⟩ := h
  refine ⟨_, (pss_cons (ps_for PassesOwn.leaving rfl (pi_enumT (by rfl) n_enumerate (pa_cons (pe_fld (pv 0) rfl) pa_nil)) (pg_tup rfl (pgs_cons (pg_name (i := 2) sc_placeOf.nd rfl (Or.inl rfl)) (pgs_cons (pg_name (i := 3) sc_placeOf.nd rfl (Or.inl rfl)) pgs_nil))) (pss_one (ps_if (pt_cmpR (op_eqD hr.units) (pe_ix ix_tup (pv 3) pe_int (fun _ _ => rfl)) (pv 1) (nomark _)) (pss_one (ps_ret (pv 2))) pss_nil)))
    (pss_one (ps_raise rfl (takes_of rfl rfl rfl rfl) (pmk_E Z_NoName hr (by decide) rfl (pa_cons (pv 1) pa_nil))))), ?_⟩
  refine s_forS (Di.enumTM (K := K) (as := qs) (f := encQ) (fldQ K_Form (.var hv rfl))) hB (fun i σ B => ∃ v2 v3, σ = [some v, some v1, v2, v3] ∧ ∀ z ∈ (names qs).take i, PyData.eqv (.str z) d = false) (fun B' s => ⟨_, _, rfl, fun z h => nomatch h⟩) ?_ ?_
  · rintro B2 H2 e2 i R x σ' Bc Bn Hn hR ⟨v2, v3, rfl, hn⟩ s e hx
    rw [List.getElem?_map] at hR
    obtain ⟨p, hp, rfl⟩ := Option.map_eq_some_iff.mp hR
    rw [List.getElem?_zipIdx] at hp
    obtain ⟨q, hq, rfl⟩ := Option.map_eq_some_iff.mp hp
    obtain ⟨y, z, hy, hz, go⟩ := gTup2 e.bh hx
    refine go _ ?_
    have hy := dat_int hy
    subst hy
    have hni : (names qs)[i]? = some q.1 := by
      unfold names
      rw [List.getElem?_map, hq]
      rfl
    have tk := take_snoc hni
    refine s_if (Dt.tB (De.op (r := rEqD K) (De.op (r := rIxT K) (.var hz rfl) .int (Rv.ixTD rfl)) (.var (Mo.mo (e2.bb.trans e.bb) hv1) rfl) (Rv.eqD (shaped_str (nm q.1 (List.mem_of_getElem? hni))) sd))) e.bh (fun t B' H' e' => ?_) fun f B' H' e' => ?_
    · refine s_ret (R := dat K (.int (i : Int))) (.var (Dp.int _) (by simp)) e'.bh fun v B H e'' hv => ?_
      have hv := dat_int hv
      subst hv
      refine kr i ?_ B H (((e2.trans e).trans e').trans e'')
      unfold placeD
      rw [List.findIdx?_eq_some_iff_getElem]
      refine ⟨(List.getElem?_eq_some_iff.mp hni).1, by rw [(List.getElem?_eq_some_iff.mp hni).2]; exact t, fun j hj => ?_⟩
      rw [hn _ (List.mem_take_iff_getElem.mpr ⟨j, by have := (List.getElem?_eq_some_iff.mp hni).1; omega, rfl⟩)]
      decide
    · refine ⟨B', e.trans e', _, _, rfl, fun z hz => ?_⟩
      rw [tk] at hz
      rcases List.mem_append.mp hz with h | h
      · exact hn z h
      · rw [List.mem_singleton.mp h]
        exact f
  · rintro σ' B' H' e2 ⟨v2, v3, rfl, hn⟩
    refine ⟨_, rfl, v1, rfl, fun dx hdx => kx ?_ B' H' dx e2 hdx⟩
    unfold placeD
    rw [List.findIdx?_eq_none_iff]
    intro z hz
    refine hn z ?_
    rw [List.length_map, List.length_zipIdx, List.take_of_length_le (by unfold names; rw [List.length_map]; exact Nat.le_refl _)]
    exact hz
theorem sc_answersOf : FnScope ["form", "name"] ["form", "name"] (defScope s_answersOf) := ⟨rfl, rfl, rfl, by decide +kernel, rfl, by decide +kernel, by decide +kernel⟩
theorem ok_answersOf (D : Def K mg "answers_of" s_answersOf ["form", "name"]) (C_placeOf : Cal P w K mg base (L2.CX P w) 3 "place_of" s_placeOf ["form", "name"] (spPlace K C_Form C_NoName)) (K_Form : CalC P w K mg base "Form" C_Form ["questions"]) : Cal P w K mg base (L2.CX P w) 4 "answers_of" s_answersOf ["form", "name"] (spAnswers K C_Form C_NoName) := by
  refine D.okX sc_answersOf (fun vs H Q E h => ?_) (fun cdv f A outer s H vs Q E hr h => ?_)
  · obtain ⟨v, v1, B, qs, d, rfl, _⟩ := h
    rfl
  obtain ⟨v, v1, B, qs, d, rfl, hB, hv, hv1, sm, nm, sd, kr, kx⟩ := h
  refine ⟨_, (pss_one (ps_ret (pe_ix ix_tup (pe_ix ix_tup (pe_fld (pv 0) rfl) (pe_calS C_placeOf (hr.mono (by decide)) (by rfl) (fun σ => passAt (takes_of rfl rfl rfl rfl) σ) (pa_cons (pv 0) (pa_cons (pv 1) pa_nil))) (fun _ _ => rfl)) pe_int (fun _ _ => rfl)))), ?_⟩
  dsimp only [tRet, tOp]
  refine fldQ (σ := [some v, some v1]) K_Form (.var (i := 0) hv rfl) B H (Same.refl _) hB _ fun u B1 H1 e1 hu => ?_
  refine ⟨_, rfl, _, rfl, v, v1, B1, qs, d, rfl, e1.bh, Mo.mo e1.bb hv, Mo.mo e1.bb hv1, sm, nm, sd, fun i hi B2 H2 e2 => ?_, fun h B2 H2 dx e2 hdx => kx h B2 H2 dx (e1.trans e2) hdx⟩
  have lt : i < qs.length := by
    unfold placeD at hi
    have := (List.findIdx?_eq_some_iff_getElem.mp hi).1
    unfold names at this
    rw [List.length_map] at this
    exact this
  have hq : qs[i]? = some qs[i] := List.getElem?_eq_getElem lt
  obtain ⟨a, xs, rfl, hs, hR⟩ := dat_tupM (Mo.mo e2.bb hu)
  obtain ⟨x, hx, hxe⟩ := allR_of (R := dat K (encQ qs[i])) hR (by rw [List.getElem?_map, hq]; rfl)
  refine ⟨a, xs, (i : Int), x, rfl, rfl, seqT e2.bh hs, atI_nat hx, ?_⟩
  obtain ⟨b, ys, rfl, hs2, y, r, rfl, _, z, r', rfl, hz, hr'⟩ := dat_tupR hxe
  have hz := dat_int hz
  subst hz
  have hr' : r' = [] := hr'
  subst hr'
  exact ⟨b, _, 1, .int (qs[i].2 : Int), rfl, rfl, seqT e2.bh hs2, rfl, kr i qs[i] hi hq B2 H2 (e1.trans e2)⟩
theorem sc_subsets : FnScope ["names", "some", "name", "lot"] ["names"] (defScope s_subsets) := ⟨rfl, rfl, rfl, by decide +kernel, rfl, by decide +kernel, by decide +kernel⟩
theorem ok_subsets (D : Def K mg "_law_subsets" s_subsets ["names"]) (n_sorted : mg "sorted" = none) : Cal P w K mg base CX0 1 "_law_subsets" s_subsets ["names"] (sp_subsets K) := by
  refine D.ok sc_subsets (fun vs H Q E h => ?_) (fun cdv f A outer s H vs Q E hr h => ?_)
  · exact pf_len h fun _ => rfl
  replace h := pf1 h
  obtain ⟨v, B, ⟨ty, l⟩, rfl, hB, hv, few, k⟩ := h
  refine ⟨_, (pss_cons (ps_set (i := 1) sc_subsets.nd rfl (Or.inl rfl) (pe_lst (pa_cons (pe_tup pa_nil) pa_nil)))
    (pss_cons (ps_for PassesOwn.never rfl (pi_seq (pv 0)) (pg_name (i := 2) sc_subsets.nd rfl (Or.inr rfl)) (pss_one (ps_set (i := 1) sc_subsets.nd rfl (Or.inl rfl) (pe_op op_catS (pv 1) (pe_lc (own := [("lot", 3)]) (g := gName 3) (tt := tYes) rfl sc_subsets.nd (pi_list (pv 1)) (blkOk_by (own := [("lot", 3)]) (N := ["names", "some", "name", "lot"]) (sc := defScope s_subsets) (by decide +kernel)) (fun _ _ _ _ _ => (pg_name (i := 3) sc_subsets.nd rfl (Or.inl rfl))) (fun _ _ _ _ _ => pts_nil) (fun _ _ _ _ _ => (pe_op (r := rCatA K) op_catA (pv 3) (pe_tup (pa_cons (pv 2) pa_nil)))))))))
    (pss_one (ps_ret (pe_callB (cr_sortedD hr.units) (by rfl) n_sorted (by decide +kernel) (pa_cons (pv 1) pa_nil)))))), ?_⟩
  have few : l.length ≤ 4 := few
  refine s_set (De.lstD (K := K) (.cons (De.tupD .nil (by show 0 ≤ sizeLine; decide)) .nil) (by show 1 ≤ sizeLine; decide)) hB fun v1 B1 H1 e1 h1 => ?_
  have walk : Di (iSeq K (tVar 0)) [some v, some v1, none, none] B1 ((l.map PyData.str).map (dat K)) := by
    cases ty with
    | true => exact Di.seqT (.var (Mo.mo e1.bb hv) rfl)
    | false => exact Di.seqL (.var (Mo.mo e1.bb hv) rfl)
  refine s_forS walk e1.bh (fun i σ B => ∃ u v3 v4, σ = [some v, some u, v3, v4] ∧ dat K (.list ((subs (l.take i)).map lotD)) B u) (fun B' s => ⟨v1, _, _, rfl, Mo.mo s h1⟩) ?_ ?_
  · rintro B2 H2 e2 i R x σ' Bc Bn Hn hR ⟨u, v3, v4, rfl, hu⟩ s e hx
    rw [List.getElem?_map, List.getElem?_map] at hR
    obtain ⟨_, hn', rfl⟩ := Option.map_eq_some_iff.mp hR
    obtain ⟨n, hn, rfl⟩ := Option.map_eq_some_iff.mp hn'
    have i4 := (List.getElem?_eq_some_iff.mp hn).1
    have tk := take_snoc hn
    have sl := subs_len l i (by omega)
    have p4 : 2 ^ i ≤ 2 ^ 4 := Nat.pow_le_pow_right (by decide) (by omega)
    refine s_setE (De.op (r := rCatS K) (De.var (Mo.mo s hu) rfl) (De.lcA (K := K) (as := subs (l.take i)) (r := fun a => dat K (lotD a)) (Di.listM (f := lotD) (.var (Mo.mo s hu) rfl)) (fun a => lotD (a ++ [n])) (by rw [sl, sizeLine_eq]; omega) fun a y Bm Hm ha sm _ hy => ⟨_, fun Q z => z, rfl, ?_⟩) (Rv.catS (by rw [List.length_map, List.length_map, sl, sizeLine_eq]; omega))) e.bh fun v6 B6 H6 e6 h6 => ⟨B6, e.trans e6, v6, _, _, rfl, ?_⟩
    · refine De.eq (d := .tuple (a.map .str ++ [.str n])) (De.op (r := rCatA K) (De.var hy rfl) (De.tupD (ds := [.str n]) (.cons (.var (Mo.mo sm hx) rfl) .nil) (by show 1 ≤ sizeLine; decide)) (Rv.catT ?_)) ?_
      · rw [List.length_map, sizeLine_eq]
        have := subs_row ha
        show _ + 1 ≤ _
        rw [List.length_take] at this
        omega
      · unfold lotD
        rw [List.map_append]
        rfl
    · rw [tk, subs_snoc, List.map_append, List.map_map]
      exact h6
  · rintro σ' B' H' e2 ⟨u, v3, v4, rfl, hu⟩
    rw [List.length_map, List.length_map, List.take_length] at hu
    exact s_ret (De.sorted (.var hu rfl) (alike_lots _) (Fm.ok_lots _) (depth_lots _)) e2.bh fun v B H e h => k v B H ((e1.trans e2).trans e) h
end
end K04

set_option Elab.async false
set_option linter.all false
set_option maxRecDepth 100000
set_option maxHeartbeats 4000000
/-! the deal of a law: _law_source, _law_any, _law_of. -/
namespace K04
open PySem PySem.Spec PyProof.Rows L2 Wb
theorem ints_dp {K : PySem.W.Frag} {H : Hp} : ∀ cs : List Int, DpAll K H (cs.map V.int) (cs.map PyData.int)
  | [] => .nil
  | z :: cs => .cons (.int z) (ints_dp cs)
theorem ints_lay : ∀ cs : List Int, PyData.canLayAll0 (cs.map PyData.int) = true
  | [] => by simp [PyData.canLayAll0]
  | z :: cs => by simp [PyData.canLayAll0, PyData.canLay0, ints_lay cs]
theorem ints_depth : ∀ cs : List Int, PyData.depthAll (cs.map PyData.int) = 0
  | [] => by simp [PyData.depthAll]
  | z :: cs => by simp [PyData.depthAll, PyData.depth, ints_depth cs]
theorem ints_shaped (cs : List Int) : SeqAt.shaped (.list (cs.map PyData.int)) = true := by
  show (PyData.canLay0 (.list (cs.map PyData.int)) && decide (PyData.depth (.list (cs.map PyData.int)) ≤ 64)) = true
  rw [Bool.and_eq_true]
  refine ⟨by simp only [PyData.canLay0]; exact ints_lay cs, decide_eq_true ?_⟩
  simp only [PyData.depth, ints_depth]
  omega
theorem ints_eqv (cs : List Int) : PyData.eqv (.list (cs.map PyData.int)) (.list []) = cs.isEmpty := by
  cases cs with
  | nil => simp [PyData.eqv, PyData.eqvAll]
  | cons z r => simp [PyData.eqv, PyData.eqvAll]

section
variable {P : Program} {w : World} {K : PySem.W.Frag} {mg : Str → Option Value} {base : Heap}
theorem scAny : FnScope ["deal", "bound", "rest"] ["deal", "bound"] (defScope s_any) := ⟨rfl, rfl, rfl, by decide +kernel, rfl, by decide +kernel, by decide +kernel⟩

/-- how many cells are left -/
def left (c : Addr) (H : Hp) : Nat := match H c with
  | some (.lst xs) => xs.length
  | _ => 0

theorem okf_any {f : Addr} {fd : FuncData} (F : Fun K "_law_any" "_law_any" s_any f fd) (noInt : mg "int" = none) : FnOk P w K mg base CX0 1 f fd ["deal", "bound"] spAny := by
  refine F.ok scAny (fun vs H Q E h => ?_) (fun cdv A outer s H vs Q E hr h => ?_)
  · obtain ⟨d, c, bound, rfl, _⟩ := h
    rfl
  obtain ⟨d, c, bound, rfl, D, b0, b1, k⟩ := h
  refine ⟨_, pss_cons (ps_while PassesOwn.never (PW.pt (pw_and (pt_cmpR (op_neD hr.units) (pe_ix ix_list (pv 0) pe_int (fun _ _ => rfl)) (pe_lst pa_nil) (nomark _))
        (pw_and1 (pt_cmpR op_eq (pe_ix ix_list (pe_ix ix_list (pv 0) pe_int (fun _ _ => rfl)) (pe_un un_neg pe_int) (fun _ _ => rfl)) pe_int (nomark _)))))
      (pss_one (ps_expr (pe_bm0 PySem.F.plainAttrs_list PySem.F.slot_list_pop PySem.F.type_list_pop mt_pop (pe_ix ix_list (pv 0) pe_int (fun _ _ => rfl))))))
    (pss_cons (ps_if (pt_cmpR (op_neD hr.units) (pe_ix ix_list (pv 0) pe_int (fun _ _ => rfl)) (pe_lst pa_nil) (nomark _))
      (pss_cons (ps_set (i := 2) scAny.nd rfl (Or.inl rfl) (pe_callTy call_int1 (by rfl) noInt (by decide +kernel) (pa_cons (pe_bm0 PySem.F.plainAttrs_list PySem.F.slot_list_pop PySem.F.type_list_pop mt_pop (pe_ix ix_list (pv 0) pe_int (fun _ _ => rfl))) pa_nil)))
      (pss_cons (ps_expr (pe_bm PySem.F.plainAttrs_list PySem.F.slot_list_append PySem.F.type_list_append mt_append (pe_ix ix_list (pv 0) pe_int (fun _ _ => rfl)) (pa_cons (pe_op op_fdivW (pv 2) (pv 1)) pa_nil)))
      (pss_one (ps_ret (pe_op op_mod (pv 2) (pv 1)))))) pss_nil)
    (pss_cons (ps_asg (pe_op op_mod (pe_callTy call_int1 (by rfl) noInt (by decide +kernel) (pa_cons (pe_op op_add (pe_op op_mul (pe_ix ix_list (pv 0) pe_int (fun _ _ => rfl)) pe_int) pe_int) pa_nil)) pe_int) (pg_sub (pv 0) pe_int set_list))
    (pss_one (ps_ret (pe_op op_mod (pe_callTy call_int1 (by rfl) noInt (by decide +kernel) (pa_cons (pe_op op_fdiv (pe_ix ix_list (pv 0) pe_int (fun _ _ => rfl)) pe_int) pa_nil)) (pv 1))))))  , ?_⟩
  -- the cells that are 0 go
  refine whileI (fun σ H' => σ = [some (.ref d), some (.int bound), none] ∧ Deal H' d c ∧ Same (off H d c) (off H' d c))
    (fun σ H' => σ = [some (.ref d), some (.int bound), none] ∧ Deal H' d c ∧ Same (off H d c) (off H' d c)) (fun _ H' => left c H') ⟨rfl, D, Same.refl _⟩ ?_ ?_
  · -- behind it
    rintro σ G ⟨rfl, D', S'⟩
    obtain ⟨cs, mix, h1, h2, short, nn, m0, m1⟩ := D'.ex
    refine ⟨_, rfl, d, [.ref c, .int mix], 0, .ref c, rfl, rfl, SqL.of h1, rfl, ?_⟩
    refine ⟨Nat.zero_le _, fun l hl => ?_⟩
    have Sl : Same G (upd G l (.lst [])) := new_same hl
    have D2 : Deal (upd G l (.lst [])) d c := D'.same Sl
    have S2 : Same (off H d c) (off (upd G l (.lst [])) d c) := S'.trans (off_mono Sl)
    have h1' := Sl _ _ h1
    have h2' := Sl _ _ h2
    have ne := D'.ne
    refine ⟨.list (cs.map PyData.int), .list [], .lst (SqL.of h2') (ints_dp cs), .lst (SqL.of upd_same) .nil, ints_shaped cs, rfl, _, rfl, ?_⟩
    rw [ints_eqv]
    generalize upd G l (.lst []) = G2 at *
    rcases nil_or_last cs with rfl | ⟨ini, z, rfl⟩
    · -- no cell: the number goes on
      refine iteF ?_
      refine ⟨_, rfl, d, [.ref c, .int mix], 1, .int mix, rfl, rfl, SqL.of h1', rfl, ?_⟩
      refine ⟨_, _, rfl, rfl, .inl ⟨by omega, by omega⟩, _, _, rfl, rfl, .inl ⟨_, rfl, ?_⟩⟩
      refine ⟨_, _, rfl, rfl, (by show (0 : Int) < 2147483647; decide), ?_⟩
      refine ⟨_, rfl, d, [.ref c, .int mix], 1, 1, rfl, rfl, h1', rfl, ?_⟩
      obtain ⟨mix2, hm⟩ : ∃ mix2, mix2 = (mix * 48271 + 41) % 2147483647 := ⟨_, rfl⟩
      have at2 : upd G2 d (.lst ([V.ref c, V.int mix].set 1 (V.int ((mix * 48271 + 41) % 2147483647)))) d = some (.lst [.ref c, .int mix2]) := by
        rw [upd_same, hm]
        rfl
      have q0 : 0 ≤ mix2 := by omega
      have q1 : mix2 < 2147483647 := by omega
      refine ⟨_, rfl, d, [.ref c, .int mix2], 1, .int mix2, rfl, rfl, SqL.of at2, rfl, ?_⟩
      refine ⟨_, _, rfl, rfl, ⟨by decide, by decide⟩, .inl ⟨_, rfl, ?_⟩⟩
      refine ⟨_, rfl, _, _, rfl, rfl, b0, ?_⟩
      refine k _ _ (Int.emod_nonneg _ (by omega)) (Int.emod_lt_of_pos _ b0) ⟨[], mix2, at2, ?_, short, nn, q0, q1⟩ ?_
      · show upd G2 d _ c = _
        rw [upd_ne ne.symm]
        exact h2'
      · show Same _ (off (upd G2 d _) d c)
        rw [off_d]
        exact S2
    · -- a cell
      have e : (ini ++ [z]).isEmpty = false := by simp
      rw [e]
      refine iteT ?_
      have em : (ini ++ [z]).map V.int = ini.map V.int ++ [V.int z] := by simp
      rw [em] at h2'
      have z0 : 0 ≤ z := nn z (by simp)
      refine ⟨_, rfl, d, [.ref c, .int mix], 0, .ref c, rfl, rfl, SqL.of h1', rfl, .inl ⟨rfl, _, SqL.of h2'⟩, c, _, .int z, rfl, rfl, h2', by simp, .inl ⟨_, rfl, ?_⟩⟩
      rw [List.dropLast_concat]
      refine ⟨_, rfl, d, [.ref c, .int mix], 0, .ref c, rfl, rfl, SqL.of ((upd_ne ne).trans h1'), rfl, .inl ⟨rfl, _, SqL.of upd_same⟩, ?_⟩
      refine ⟨_, rfl, _, rfl, _, _, rfl, rfl, ?_, c, _, _, rfl, rfl, upd_same, ?_, ?_⟩
      · exact wide_div b0 (b := 300) (by omega) (by decide) (by decide)
      · rw [List.length_map, sizeLine_eq]
        simp at short
        omega
      refine ⟨_, rfl, _, rfl, _, _, rfl, rfl, b0, ?_⟩
      refine k _ _ (Int.emod_nonneg _ (by omega)) (Int.emod_lt_of_pos _ b0) ⟨ini ++ [z / bound], mix, ?_, ?_, ?_, ?_, m0, m1⟩ ?_
      · rw [upd_ne ne, upd_ne ne]
        exact h1'
      · rw [upd_same]
        simp
      · simpa using short
      · intro y hy
        rcases List.mem_append.mp hy with h | h
        · exact nn y (List.mem_append_left _ h)
        · simp at h
          rw [h]
          exact Int.ediv_nonneg z0 (by omega)
      · rw [off_c, off_c]
        exact S2
  · -- a turn
    rintro σ H' ⟨rfl, D', S'⟩ Y Z hY hZ
    obtain ⟨cs, mix, h1, h2, short, nn, m0, m1⟩ := D'.ex
    refine ⟨_, rfl, d, [.ref c, .int mix], 0, .ref c, rfl, rfl, SqL.of h1, rfl, ?_⟩
    refine ⟨Nat.zero_le _, fun l hl => ?_⟩
    have Sl : Same H' (upd H' l (.lst [])) := new_same hl
    have D2 : Deal (upd H' l (.lst [])) d c := D'.same Sl
    have S2 : Same (off H d c) (off (upd H' l (.lst [])) d c) := S'.trans (off_mono Sl)
    have h1' := Sl _ _ h1
    have h2' := Sl _ _ h2
    have len2 : left c H' = cs.length := by
      unfold left
      rw [h2]
      simp
    refine ⟨.list (cs.map PyData.int), .list [], .lst (SqL.of h2') (ints_dp cs), .lst (SqL.of upd_same) .nil, ints_shaped cs, rfl, _, rfl, ?_⟩
    rw [ints_eqv]
    generalize upd H' l (.lst []) = G at *
    rcases nil_or_last cs with rfl | ⟨ini, z, rfl⟩
    · refine iteF (iteF ?_)
      exact hZ _ ⟨rfl, D2, S2⟩
    · have e : (ini ++ [z]).isEmpty = false := by simp
      rw [e]
      refine iteT ?_
      have em : (ini ++ [z]).map V.int = ini.map V.int ++ [V.int z] := by simp
      rw [em] at h2'
      refine ⟨_, rfl, d, [.ref c, .int mix], 0, .ref c, rfl, rfl, SqL.of h1', rfl, 1, rfl, c, ini.map V.int ++ [V.int z], -1, .int z, rfl, rfl, SqL.of h2', atI_last _ _, rfl, _, rfl, ?_⟩
      refine ite2 (fun hz => ?_) (fun hz => ?_)
      · refine hY _ ?_
        refine ⟨_, rfl, d, [.ref c, .int mix], 0, .ref c, rfl, rfl, SqL.of h1', rfl, .inl ⟨rfl, _, SqL.of h2'⟩, c, _, .int z, rfl, rfl, h2', by simp, ?_⟩
        have ne := D2.ne
        refine ⟨⟨rfl, ⟨ini, mix, ?_, ?_, ?_, fun y hy => nn y (List.mem_append_left _ hy), m0, m1⟩, ?_⟩, ?_⟩
        · rw [upd_ne ne]
          exact h1'
        · rw [upd_same, List.dropLast_concat]
        · simp at short
          omega
        · rw [off_c]
          exact S2
        · rw [len2]
          unfold left
          rw [upd_same, List.dropLast_concat]
          simp
      · exact hZ _ ⟨rfl, D2, S2⟩
end
section
variable {P : Program} {w : World} {K : PySem.W.Frag} {mg : Str → Option Value} {base : Heap}
theorem scOf : FnScope ["deal", "some"] ["deal", "some"] (defScope s_of) := ⟨rfl, rfl, rfl, by decide +kernel, rfl, by decide +kernel, by decide +kernel⟩
theorem okf_of {f fA : Addr} {fd fdA : FuncData} (F : Fun K "_law_of" "_law_of" s_of f fd) (GA : FnOk P w K mg base CX0 1 fA fdA ["deal", "bound"] spAny) (mA : mg "_law_any" = some (.ref fA)) (kA : PySem.W.keepIn K (.ref fA) = true) (bA : Binds K fdA ["deal", "bound"] [])
    (noLen : mg "len" = none) : FnOk P w K mg base CX0 2 f fd ["deal", "some"] (spOf K) := by
  refine F.ok scOf (fun vs H Q E h => ?_) (fun cdv A outer s H vs Q E hr h => ?_)
  · obtain ⟨d, c, x, rfl, _⟩ := h
    rfl
  obtain ⟨d, c, x, rfl, D, k⟩ := h
  refine ⟨_, pss_one (ps_ret (pe_ix ix_seq (pv 1) (pe_call GA hr rfl mA kA bA .nil pass0 (pa_cons (pv 0) (pa_cons (pe_callB call_len (by rfl) noLen (by decide +kernel) (pa_cons (pv 1) pa_nil)) pa_nil))) (fun _ _ => rfl))), ?_⟩
  rcases k with ⟨p, xs, rfl, hs, ne, few, k⟩ | ⟨p, xs, rfl, hs, ne, few, k⟩ | ⟨z, rfl, ne, few, k⟩
  · have pos : 0 < xs.length := List.length_pos_iff.mpr ne
    refine ⟨_, rfl, _, rfl, _, rfl, _, xs.length, rfl, .inl ⟨xs, (off_le H d c).seq hs, rfl⟩, d, c, xs.length, rfl, D, by omega, by omega, fun r H' r0 r1 D' S' => ?_⟩
    obtain ⟨v, hv, at_⟩ := item_at r0 r1
    exact .inl ⟨p, xs, r, v, rfl, rfl, (off_le H' d c).seq (S'.seq hs), at_, k v H' hv D' S'⟩
  · have pos : 0 < xs.length := List.length_pos_iff.mpr ne
    refine ⟨_, rfl, _, rfl, _, rfl, _, xs.length, rfl, .inr ⟨xs, seqT (off_le H d c) hs, rfl⟩, d, c, xs.length, rfl, D, by omega, by omega, fun r H' r0 r1 D' S' => ?_⟩
    obtain ⟨v, hv, at_⟩ := item_at r0 r1
    exact .inr (.inl ⟨p, xs, r, v, rfl, rfl, seqT (off_le H' d c) (seqT S' hs), at_, k v H' hv D' S'⟩)
  · have line := sizeLine_eq
    refine ⟨_, rfl, _, rfl, _, rfl, _, z.length, rfl, ⟨by omega, rfl⟩, d, c, z.length, rfl, D, by omega, by omega, fun r H' r0 r1 D' S' => ?_⟩
    obtain ⟨j, rfl⟩ := Int.eq_ofNat_of_zero_le r0
    have hj : j < z.cps.toList.length := by
      have e : z.cps.toList.length = z.length := by simp [Str.length]
      omega
    exact .inr (.inr ⟨z, (j : Int), z.cps.toList[j], rfl, rfl, by omega, atI_nat (List.getElem?_eq_getElem hj), k _ H' (List.getElem_mem hj) D' S'⟩)

/-- _law_source(script): a new deal -/
def spSource (K : PySem.W.Frag) : Sp := fun vs H Q _ => ∃ (a : Addr) (ns : List Int), vs = [.ref a] ∧ SqL K H a (ns.map V.int) ∧ ns.length ≤ 63 ∧
  ∀ (d c : Addr) (H' : Hp), H d = none → H c = none → Deal H' d c → Same H H' → Q (.ref d) H'
theorem scSource : FnScope ["script", "cells", "blend", "cell"] ["script"] (defScope s_source) := ⟨rfl, rfl, rfl, by decide +kernel, rfl, by decide +kernel, by decide +kernel⟩
theorem okf_source {f : Addr} {fd : FuncData} (F : Fun K "_law_source" "_law_source" s_source f fd) (noInt : mg "int" = none) (noAbs : mg "abs" = none) : FnOk P w K mg base CX0 1 f fd ["script"] (spSource K) := by
  refine F.ok scSource (fun vs H Q E h => ?_) (fun cdv A outer s H vs Q E hr h => ?_)
  · obtain ⟨a, ns, rfl, _⟩ := h
    rfl
  obtain ⟨a, ns, rfl, hs, few, k⟩ := h
  refine ⟨_, pss_cons (ps_setLc (i := 1) (own := [("cell", 3)]) (g := gName 3) (tt := tYes) rfl scSource.nd rfl rfl (sw_true rfl rfl rfl (by decide +kernel)) (pi_list (pe_slice sl_list (pv 0) po_none (po_some pe_int)))
      (blkOk_by (own := [("cell", 3)]) (N := ["script", "cells", "blend", "cell"]) (sc := defScope s_source) (by decide +kernel)) (fun _ _ _ _ _ => pg_name (i := 3) scSource.nd rfl (Or.inl rfl)) (fun _ _ _ _ _ => pts_nil)
      (fun _ _ _ _ _ => pe_callB call_abs (by rfl) noAbs (by decide +kernel) (pa_cons (pe_callTy call_int1 (by rfl) noInt (by decide +kernel) (pa_cons (pv 3) pa_nil)) pa_nil)))
    (pss_cons (ps_set (i := 2) scSource.nd rfl (Or.inl rfl) pe_int)
    (pss_cons (ps_for PassesOwn.never rfl (pi_list (pv 1)) (pg_name (i := 3) scSource.nd rfl (Or.inl rfl))
      (pss_one (ps_set (i := 2) scSource.nd rfl (Or.inl rfl) (pe_op op_mod (pe_callTy call_int1 (by rfl) noInt (by decide +kernel) (pa_cons (pe_op op_add (pe_op op_add (pe_op op_mul (pv 2) pe_int) (pe_op op_mod (pv 3) pe_int)) pe_int) pa_nil)) pe_int))))
    (pss_one (ps_ret (pe_lst (pa_cons (pe_revL (pe_lc (own := [("cell", 3)]) (g := gName 3) rfl scSource.nd (pi_list (pv 1))
      (blkOk_by (own := [("cell", 3)]) (N := ["script", "cells", "blend", "cell"]) (sc := defScope s_source) (by decide +kernel)) (fun _ _ _ _ _ => pg_name (i := 3) scSource.nd rfl (Or.inl rfl))
      (fun _ _ _ _ _ => pts_one (pt_cmpR op_ge (pv 3) (pe_op op_pow pe_int pe_int) (nomark _))) (fun _ _ _ _ _ => pv 3))) (pa_cons (pv 2) pa_nil))))))), ?_⟩
  -- the slice
  refine ⟨_, rfl, 63, rfl, a, ns.map V.int, rfl, hs, fun p hp => ?_⟩
  obtain ⟨ms, em, fewM⟩ : ∃ ms : List Int, cutV (ns.map V.int) none (some 63) = ms.map V.int ∧ ms.length ≤ 63 := by
    refine ⟨(ns.drop (HT.sIx (ns.map V.int).length 0 none)).take (HT.sIx (ns.map V.int).length (ns.map V.int).length (some 63) - HT.sIx (ns.map V.int).length 0 none), ?_, ?_⟩
    · unfold cutV
      rw [List.map_take, List.map_drop]
    · rw [List.length_take, List.length_drop]
      omega
  rw [em]
  have Sp : Same H (upd H p (.lst (ms.map V.int))) := new_same hp
  have atp : upd H p (.lst (ms.map V.int)) p = some (.lst (ms.map V.int)) := upd_same
  generalize upd H p (.lst (ms.map V.int)) = H1 at *
  refine ⟨p, rfl, ⟨_, SqL.of atp⟩, fun D hD => ?_⟩
  -- the cells
  refine lc_list (K := K) (a := p) (xs := ms.map V.int) (fun i G => ∃ acc : List Int, G D = some (.lst (acc.map V.int)) ∧ acc.length = i ∧ (∀ z ∈ acc, 0 ≤ z) ∧ Same H1 G)
    ⟨[], upd_same, rfl, (fun z hz => nomatch hz), new_same hD⟩ (fun i G _ ⟨_, _, _, _, sg⟩ => sg.seq (SqL.of atp)) ?_ ?_
  · rintro i x G hx ⟨acc, hG, hi, hnn, sg⟩
    have hi' : i < ms.length := by
      have := (List.getElem?_eq_some_iff.mp hx).1
      simpa using this
    obtain ⟨z, rfl⟩ : ∃ z, x = V.int z := by
      rw [List.getElem?_map] at hx
      obtain ⟨z, _, e⟩ := Option.map_eq_some_iff.mp hx
      exact ⟨z, e.symm⟩
    refine ⟨rfl, ?_⟩
    refine ⟨_, rfl, .inl ⟨z, rfl, z, rfl, acc.map V.int, hG, ?_, acc ++ [if z < 0 then -z else z], ?_, ?_, ?_, ?_⟩⟩
    · rw [List.length_map, sizeLine_eq]
      omega
    · rw [upd_same]
      simp
    · simp [hi]
    · intro y hy
      rcases List.mem_append.mp hy with q | q
      · exact hnn y q
      · simp at q
        rw [q]
        split <;> omega
    · intro b' o e
      rw [upd_ne (ne_of_none e hD)]
      exact sg b' o e
  rintro G ⟨acc, hG, hi, hnn, sg⟩
  rw [List.length_map] at hi
  -- the first number
  refine ⟨_, rfl, D, rfl, ⟨_, SqL.of hG⟩, for_list (K := K) (a := D) (xs := acc.map V.int) (fun i σ G' => ∃ (mix : Int) (v : Option V), σ = [some (.ref a), some (.ref D), some (.int mix), v] ∧ 0 ≤ mix ∧ mix < 2147483647 ∧ G' = G)
    ⟨_, none, rfl, by omega, by omega, rfl⟩ (fun i σ G' _ ⟨_, _, _, _, _, e⟩ => by rw [e]; exact SqL.of hG) ?_ ?_⟩
  · rintro i y σ G' hy ⟨mix, v, rfl, q0, q1, rfl⟩
    obtain ⟨z, rfl⟩ : ∃ z, y = V.int z := by
      rw [List.getElem?_map] at hy
      obtain ⟨z, _, e⟩ := Option.map_eq_some_iff.mp hy
      exact ⟨z, e.symm⟩
    refine ⟨_, rfl, _, _, rfl, rfl, .inl ⟨by omega, by omega⟩, _, rfl, _, _, rfl, rfl, (by show (0 : Int) < 2147483549; decide), _, _, rfl, rfl, _, _, rfl, rfl, .inl ⟨_, rfl, ?_⟩⟩
    refine ⟨_, _, rfl, rfl, (by show (0 : Int) < 2147483647; decide), ?_⟩
    exact ⟨_, _, rfl, Int.emod_nonneg _ (by decide), Int.emod_lt_of_pos _ (by decide), rfl⟩
  rintro σ G' ⟨mix, v, rfl, q0, q1, rfl⟩
  -- the great cells, turned
  refine ⟨_, rfl, D, rfl, ⟨_, SqL.of hG⟩, fun D2 hD2 => ?_⟩
  refine lc_list (K := K) (a := D) (xs := acc.map V.int) (fun i G2 => ∃ big : List Int, G2 D2 = some (.lst (big.map V.int)) ∧ big.length ≤ i ∧ (∀ z ∈ big, 0 ≤ z) ∧ Same G' G2)
    ⟨[], upd_same, Nat.le_refl _, (fun z hz => nomatch hz), new_same hD2⟩ (fun i G2 _ ⟨_, _, _, _, s2⟩ => s2.seq (SqL.of hG)) ?_ ?_
  · rintro i x G2 hx ⟨big, hB, hl, hbn, s2⟩
    have hx2 := hx
    have hi' : i < acc.length := by
      have := (List.getElem?_eq_some_iff.mp hx).1
      simpa using this
    obtain ⟨z, hz, rfl⟩ : ∃ z, z ∈ acc ∧ x = V.int z := by
      rw [List.getElem?_map] at hx
      obtain ⟨z, hz, e⟩ := Option.map_eq_some_iff.mp hx
      exact ⟨z, List.mem_of_getElem? hz, e.symm⟩
    refine ⟨rfl, _, rfl, _, _, rfl, rfl, ⟨by decide, by decide, by decide⟩, _, _, rfl, rfl, _, rfl, ?_⟩
    refine ite2 (fun _ => ?_) (fun _ => ?_)
    · refine ⟨_, rfl, big.map V.int, hB, ?_, big ++ [z], ?_, ?_, ?_, ?_⟩
      · rw [List.length_map, sizeLine_eq]
        omega
      · rw [upd_same]
        simp
      · simp
        omega
      · intro y hy
        rcases List.mem_append.mp hy with q | q
        · exact hbn y q
        · simp at q
          rw [q]
          exact hnn z hz
      · intro b' o e
        rw [upd_ne (ne_of_none e hD2)]
        exact s2 b' o e
    · exact ⟨big, hB, by omega, hbn, s2⟩
  rintro G2 ⟨big, hB, hl, hbn, s2⟩
  rw [List.length_map] at hl
  refine ⟨D2, _, rfl, SqL.of hB, fun c hc => ?_⟩
  have Sc : Same G2 (upd G2 c (.lst (big.map V.int).reverse)) := new_same hc
  have atc : upd G2 c (.lst (big.map V.int).reverse) c = some (.lst (big.reverse.map V.int)) := by rw [upd_same, List.map_reverse]
  generalize upd G2 c (.lst (big.map V.int).reverse) = G3 at *
  refine ⟨_, rfl, (by show 2 ≤ sizeLine; decide), fun d hd => ?_⟩
  have S3 : Same H G3 := ((Sp.trans sg).trans s2).trans Sc
  have S4 : Same G3 (upd G3 d (.lst [.ref c, .int mix])) := new_same hd
  refine k d c _ (S3.free hd) (((Sp.trans sg).trans s2).free hc) ⟨big.reverse, mix, upd_same, S4 _ _ atc, ?_, ?_, q0, q1⟩ (S3.trans S4)
  · simp
    omega
  · intro z hz
    exact hbn z (List.mem_reverse.mp hz)
end
section
variable {P : Program} {w : World} {K : PySem.W.Frag} {mg : Str → Option Value} {base : Heap}
theorem ok_any (D : Def K mg "_law_any" s_any ["deal", "bound"]) (n_int : mg "int" = none) : Cal P w K mg base CX0 1 "_law_any" s_any ["deal", "bound"] spAny := by
  obtain ⟨f, fd, F, m, b, o⟩ := D
  exact ⟨f, fd, okf_any F n_int, m, F.kp, b, o⟩
theorem ok_of (D : Def K mg "_law_of" s_of ["deal", "some"]) (A : Cal P w K mg base CX0 1 "_law_any" s_any ["deal", "bound"] spAny) (n_len : mg "len" = none) : Cal P w K mg base CX0 2 "_law_of" s_of ["deal", "some"] (spOf K) := by
  obtain ⟨f, fd, F, m, b, o⟩ := D
  obtain ⟨fA, fdA, GA, mA, kA, bA, _⟩ := A
  exact ⟨f, fd, okf_of F GA mA kA bA n_len, m, F.kp, b, o⟩
theorem ok_source (D : Def K mg "_law_source" s_source ["script"]) (n_int : mg "int" = none) (n_abs : mg "abs" = none) : Cal P w K mg base CX0 1 "_law_source" s_source ["script"] (spSource K) := by
  obtain ⟨f, fd, F, m, b, o⟩ := D
  exact ⟨f, fd, okf_source F n_int n_abs, m, F.kp, b, o⟩
end
end K04

set_option Elab.async false
set_option linter.all false
set_option maxRecDepth 100000
set_option maxHeartbeats 4000000
/-! K04d: drawn names and forms. -/
namespace K04
open PySem PySem.Spec PyProof.Rows L2 Wb Wv Fm
def strR (P : Str → Prop) : Rel := fun _ v => ∃ z, P z ∧ v = .str z
abbrev sp_lname (K : PySem.W.Frag) : Sp := DPf (α := Unit) (fun _ => []) (fun _ => True) (fun _ => strR (Nmk 17))
theorem strs_vals {K : PySem.W.Frag} {B : Hp} : ∀ {zs : List Str} {xs : List V}, AllR ((zs.map PyData.str).map (dat K)) B xs → xs = zs.map V.str
  | [], _, h => h
  | z :: zs, _, h => by
    obtain ⟨v, r, rfl, h1, h2⟩ := h
    rw [dat_str h1, strs_vals h2]
    rfl
def NmsOk (n : Nat) (zs : List Str) : Prop := zs.length = n ∧ zs.Nodup ∧ ∀ z ∈ zs, Nmk 17 z
def namesR (K : PySem.W.Frag) (n : Nat) : Rel := fun B v => ∃ zs, NmsOk n zs ∧ dat K (.list (zs.map .str)) B v
abbrev sp_lnames (K : PySem.W.Frag) : Sp := DPf (α := Nat) (fun n => [dat K (.int (n : Int))]) (fun n => n ≤ 8) (namesR K)
def FormOk (qs : Qs) : Prop := 1 ≤ qs.length ∧ qs.length ≤ 4 ∧ (∀ q ∈ qs, 2 ≤ q.2 ∧ q.2 ≤ 4) ∧ (Fm.names qs).Nodup ∧ ∀ z ∈ Fm.names qs, Nmk 17 z
def qsR (K : PySem.W.Frag) : Rel := fun B v => ∃ qs, FormOk qs ∧ dat K (qsD qs) B v
abbrev sp_lform (K : PySem.W.Frag) : Sp := DPf (α := Unit) (fun _ => []) (fun _ => True) (fun _ => qsR K)
/-- thrice a sign -/
def thrice : List Str := (Str.ofString "abcdefghij").cps.toList.map fun c => mulS ⟨#[c]⟩ 3
theorem thrice_nodup : thrice.Nodup := by decide +kernel
theorem thrice_nm : ∀ z ∈ thrice, Nmk 17 z := by
  have : ∀ z ∈ thrice, z.length ≤ 17 ∧ ∀ c ∈ z.cps.toList, c < 128 := by decide +kernel
  exact this
theorem spare_ne {zs : List Str} (h : zs.length < 10) : thrice.filter (fun z => !decide (z ∈ zs)) ≠ [] := by
  intro e
  have all : ∀ z ∈ thrice, z ∈ zs := fun z hz => by
    have := List.filter_eq_nil_iff.mp e z hz
    simpa using this
  have := nodup_len thrice_nodup all
  have l : thrice.length = 10 := by decide +kernel
  omega
theorem sortD_strs (zs : List Str) : ∃ ys : List Str, ys.Perm zs ∧ sortD (zs.map .str) = ys.map .str := by
  refine ⟨zs.mergeSort fun a b => dle (.str a) (.str b), List.mergeSort_perm _ _, ?_⟩
  unfold sortD
  rw [List.map_mergeSort (s := dle) (f := PyData.str) (fun a _ b _ => rfl)]
theorem alike_str (zs : List Str) : PySem.W.AllAlike (zs.map .str) := by
  intro d hd d' hd'
  obtain ⟨a, _, rfl⟩ := List.mem_map.mp hd
  obtain ⟨b, _, rfl⟩ := List.mem_map.mp hd'
  simp only [PySem.W.alike]
theorem sortok_str (zs : List Str) : PySem.W.SortOk (zs.map .str) := .inr fun d hd => by
  obtain ⟨a, _, rfl⟩ := List.mem_map.mp hd
  exact ⟨(fun z => nomatch z), (fun _ z => nomatch z)⟩
theorem depth_str (zs : List Str) : ∀ d ∈ zs.map PyData.str, d.depth ≤ 60 := fun d hd => by
  obtain ⟨a, _, rfl⟩ := List.mem_map.mp hd
  simp [PyData.depth]
theorem strs_dpAll {K : PySem.W.Frag} {H : Hp} : ∀ zs : List Str, DpAll K H (zs.map V.str) (zs.map PyData.str)
  | [] => .nil
  | z :: zs => .cons (.str z) (strs_dpAll zs)
section
variable {P : Program} {w : World} {K : PySem.W.Frag} {mg : Str → Option Value} {base : Heap} {C_Form C_NoName C_BlankError : Addr}
theorem sc_lname : FnScope ["deal", "letters", "stem", "at", "turn"] ["deal"] (defScope s_lname) := ⟨rfl, rfl, rfl, by decide +kernel, rfl, by decide +kernel, by decide +kernel⟩
theorem ok_lname (D : Def K mg "_law_name" s_lname ["deal"]) (C_any : Cal P w K mg base CX0 1 "_law_any" s_any ["deal", "bound"] spAny) (C_of : Cal P w K mg base CX0 2 "_law_of" s_of ["deal", "some"] (spOf K)) (n_range : mg "range" = none) : Cal P w K mg base CX0 3 "_law_name" s_lname ["deal"] (sp_lname K) := by
  refine D.ok sc_lname (fun vs H Q E h => ?_) (fun cdv f A outer s H vs Q E hr h => ?_)
  · exact dpf_len h fun _ => rfl
  replace h := dpf0 h
  obtain ⟨d, c, B, _, rfl, L, _, k⟩ := h
  refine ⟨_, (pss_cons (ps_set (i := 1) sc_lname.nd rfl (Or.inr rfl) pe_str)
    (pss_cons (ps_if (pt_cmpR op_eq (pe_cal C_any (hr.mono (by decide)) (by rfl) pass0 (pa_cons (pv 0) (pa_cons pe_int pa_nil))) pe_int (nomark _)) (pss_cons (ps_par (i := 2) (j := 3) rfl sc_lname.nd rfl rfl (by decide) rfl rfl (pa_cons (pe_cal C_of (hr.mono (by decide)) (by rfl) pass0 (pa_cons (pv 0) (pa_cons (pe_lst (pa_cons pe_str (pa_cons pe_str (pa_cons pe_str (pa_cons pe_str pa_nil))))) pa_nil))) (pa_cons (pe_cal C_any (hr.mono (by decide)) (by rfl) pass0 (pa_cons (pv 0) (pa_cons pe_int pa_nil))) pa_nil)) (by rfl))
      (pss_one (ps_ret (pe_op op_add_str (pe_op op_add_str (pe_slice sl_str (pv 2) po_none (po_some (pv 3))) (pe_cal C_of (hr.mono (by decide)) (by rfl) pass0 (pa_cons (pv 0) (pa_cons (pv 1) pa_nil)))) (pe_slice sl_str (pv 2) (po_some (pe_op op_add (pv 3) pe_int)) po_none))))) pss_nil)
    (pss_one (ps_ret (pe_join pe_str (pe_lc (own := [("turn", 4)]) (g := gName 4) (tt := tYes) rfl sc_lname.nd (pi_range1 rfl n_range (pa_cons (pe_op op_add pe_int (pe_cal C_any (hr.mono (by decide)) (by rfl) pass0 (pa_cons (pv 0) (pa_cons pe_int pa_nil)))) pa_nil)) (blkOk_by (own := [("turn", 4)]) (N := ["deal", "letters", "stem", "at", "turn"]) (sc := defScope s_lname) (by decide +kernel)) (fun _ _ _ _ _ => (pg_name (i := 4) sc_lname.nd rfl (Or.inl rfl))) (fun _ _ _ _ _ => pts_nil) (fun _ _ _ _ _ => (pe_cal C_of (hr.mono (by decide)) (by rfl) pass0 (pa_cons (pv 0) (pa_cons (pv 1) pa_nil)))))))))), ?_⟩
  refine s_set (De.str (K := K)) L.bh fun v1 B1 H1 e1 h1 => ?_
  have h1 := dat_str h1
  subst h1
  have eA := ExtD.of L e1
  refine s_ifSR (t_any0 (K := K) eA.dl rfl .int (by decide) (by decide) fun b B2 H2 e2 => ?_)
  have e12 := eA.trans L e2
  refine ite2 (fun _ => ?_) (fun _ => ?_)
  · refine s_parR (c_ofL (K := K) e12.dl rfl (De.lstD (.cons .str (.cons .str (.cons .str (.cons .str .nil)))) (by show 4 ≤ sizeLine; decide)) (by simp) (by show 4 ≤ 1000; decide) fun x v B3 H3 hx e3 hv => c_any (K := K) e3.dl rfl .int (by decide) (by decide) fun r B4 H4 r0 r1 e4 => ?_)
    obtain ⟨z, rfl, hz⟩ : ∃ z : Str, x = .str z ∧ Nmk 8 z := by
      simp only [List.mem_cons, List.not_mem_nil, or_false] at hx
      rcases hx with rfl | rfl | rfl | rfl <;> exact ⟨_, rfl, by decide +kernel, by decide +kernel⟩
    have hv := dat_str hv
    subst hv
    have zs : z.length ≤ sizeLine := by rw [sizeLine_eq]; have := hz.1; omega
    refine s_retR (r_op (r_op (d_ev e4.dl (De.slS (K := K) (.var (Dp.str _) rfl) .none (.some (K := K) (.var (Dp.int _) rfl)) zs) fun x5 B5 H5 e5 h5 => c_ofS (K := K) e5.dl rfl (.var (Dp.str _) rfl) (by decide +kernel) (by decide +kernel) fun a B6 H6 ha e6 => ⟨_, _, dat_str h5, rfl, ?_, d_ev e6.dl (De.slS (K := K) (.var (Dp.str _) rfl) (.some (K := K) (.op (.var (Dp.int _) rfl) .int Rv.I0)) .none zs) fun x7 B7 H7 e7 h7 => ⟨_, _, rfl, dat_str h7, ?_, k _ B7 H7 ((((e12.trans L e3).trans L e4).trans L e5).trans L (e6.trans e5.dl e7)) ⟨_, ?_, rfl⟩⟩⟩)))
    all_goals have la : a < 128 := (show ∀ a ∈ (Str.ofString "abcdefghijklmnopqrstuvwxyz").cps.toList, a < 128 by decide +kernel) a ha
    · have := (hz.cut (lo := none) (hi := some r)).1
      rw [sizeLine_eq]
      show _ + 1 ≤ _
      omega
    · have := ((hz.cut (lo := none) (hi := some r)).app (Nmk.one la)).1
      have := (hz.cut (lo := some (r + 1)) (hi := none)).1
      rw [sizeLine_eq]
      omega
    · exact ((hz.cut.app (Nmk.one la)).app hz.cut).mono (by decide)
  · dsimp only [tRet]
    refine ⟨⟨_, rfl⟩, ?_⟩
    refine c_lcAny (K := K) e12.dl rfl .int (by decide) (by decide) (by decide) (by decide) fun r B3 H3 r0 r1 e3 => ?_
    have e13 := e12.trans L e3
    refine c_lcD (K := K) (as := List.range (1 + r).toNat) (wi := fun _ H R => R (Itr 0 (1 + r).toNat) H) e13.dl (Di.itr (K := K)) (by rw [List.length_range, sizeLine_eq]; omega) (fun i out => ∃ zs : List Str, out = zs.map .str ∧ zs.length = i ∧ ∀ z ∈ zs, Nmk 1 z) ⟨[], rfl, rfl, fun z h => nomatch h⟩ (fun i a v B5 H5 out ha L5 s5 hv ⟨zs, ho, hl, hz⟩ Y N hY hN => ⟨rfl, ?_⟩) fun out v B6 H6 e6 ⟨zs, ho, hl, hz⟩ hv => ?_
    · refine c_ofS (K := K) L5 rfl (.var (Dp.str _) rfl) (by decide +kernel) (by decide +kernel) fun a B7 H7 ha e7 => hY _ B7 H7 (.str ⟨#[a]⟩) e7 (Dp.str _) ⟨zs ++ [⟨#[a]⟩], by rw [ho]; simp, by simp [hl], fun z hz' => ?_⟩
      have la : a < 128 := (show ∀ a ∈ (Str.ofString "abcdefghijklmnopqrstuvwxyz").cps.toList, a < 128 by decide +kernel) a ha
      rcases List.mem_append.mp hz' with h | h
      · exact hz z h
      · rw [List.mem_singleton.mp h]
        exact Nmk.one la
    · subst ho
      rw [List.length_range] at hl
      obtain ⟨p, xs, rfl, hs, hR⟩ := dat_lstR hv
      have ex : xs = zs.map V.str := strs_vals hR
      subst ex
      have short : zs.length ≤ 8 := by omega
      have sum := sum_le hz
      refine ⟨_, p, zs, rfl, rfl, .inl (e6.bh.seq hs), ?_, k _ B6 H6 (e13.trans L e6) ⟨_, (join_nm ⟨Nat.le_refl _, by decide +kernel⟩ hz).mono (by omega), rfl⟩⟩
      show _ + zs.length * 0 ≤ _
      omega
theorem sc_lnames : FnScope ["deal", "many", "names", "turn", "name", "spare", "sign"] ["deal", "many"] (defScope s_lnames) := ⟨rfl, rfl, rfl, by decide +kernel, rfl, by decide +kernel, by decide +kernel⟩
theorem ok_lnames (D : Def K mg "_law_names" s_lnames ["deal", "many"]) (n_range : mg "range" = none) (C_lname : Cal P w K mg base CX0 3 "_law_name" s_lname ["deal"] (sp_lname K)) (n_sorted : mg "sorted" = none) : Cal P w K mg base CX0 4 "_law_names" s_lnames ["deal", "many"] (sp_lnames K) := by
  refine D.ok sc_lnames (fun vs H Q E h => ?_) (fun cdv f A outer s H vs Q E hr h => ?_)
  · exact dpf_len h fun _ => rfl
  replace h := dpf1 h
  obtain ⟨d, vn, c, B, n, rfl, L, hn, n8, k⟩ := h
  refine ⟨_, (pss_cons (ps_set (i := 2) sc_lnames.nd rfl (Or.inr rfl) (pe_lst pa_nil))
    (pss_cons (ps_for PassesOwn.never rfl (pi_range1 rfl n_range (pa_cons (pv 1) pa_nil)) (pg_name (i := 3) sc_lnames.nd rfl (Or.inl rfl)) (pss_cons (ps_set (i := 4) sc_lnames.nd rfl (Or.inl rfl) (pe_cal C_lname (hr.mono (by decide)) (by rfl) pass0 (pa_cons (pv 0) pa_nil)))
      (pss_cons (ps_setLc (i := 5) (own := [("sign", 6)]) (g := gName 6) rfl sc_lnames.nd rfl rfl (sw_true rfl rfl rfl (by decide +kernel)) (pi_str pe_str) (blkOk_by (own := [("sign", 6)]) (N := ["deal", "many", "names", "turn", "name", "spare", "sign"]) (sc := defScope s_lnames) (by decide +kernel)) (fun _ _ _ _ _ => (pg_name (i := 6) sc_lnames.nd rfl (Or.inl rfl))) (fun _ _ _ _ _ => pts_one (pt_cmpR (r := rNotInD K) (op_notInD hr.u65) (pe_op op_mulS (pv 6) pe_int) (pv 2) rfl)) (fun _ _ _ _ _ => (pe_op op_mulS (pv 6) pe_int)))
      (pss_one (ps_expr (pe_bm PySem.F.plainAttrs_list PySem.F.slot_list_append PySem.F.type_list_append mt_append (pv 2) (pa_cons (pe_ifExp (pt_cmpR (op_notInD hr.u65) (pv 4) (pv 2) rfl) (pv 4) (pe_ix ix_list (pv 5) pe_int (fun _ _ => rfl))) pa_nil)))))))
    (pss_one (ps_ret (pe_callB (cr_sortedD hr.units) (by rfl) n_sorted (by decide +kernel) (pa_cons (pv 2) pa_nil)))))), ?_⟩
  have hn := dat_int hn
  subst hn
  refine ⟨Nat.zero_le _, fun M hM => ?_⟩
  obtain ⟨m0, e0⟩ := Ml.new (xs := []) L hM
  refine s_forD L e0 (Di.rng (K := K) (n := n) (.var (Dp.int _) rfl) (by omega)) (fun i σ B' H' => ∃ v3 v4 v5 v6, σ = [some (.ref d), some (.int (n : Int)), some (.ref M), v3, v4, v5, v6] ∧ ∃ zs, Ml d c B' H' M (zs.map V.str) ∧ NmsOk i zs) (fun B1 H1 e => ⟨_, _, _, _, rfl, [], m0.ext e, rfl, List.nodup_nil, fun z h => nomatch h⟩) ?_ ?_
  · rintro B1 i R v σ' Bc Hc Bn Hn sB hR e1 s1 ⟨v3, v4, v5, v6, rfl, zs, m1, lz, nz, hz⟩ e2 hx
    have i8 : i < n := by
      have := (List.getElem?_eq_some_iff.mp hR).1
      rw [List.length_map, List.length_range] at this
      exact this
    have e12 := e1.trans L e2
    have m2 := m1.ext e2
    refine s_raw (c_def () e12.dl rfl .nil (by trivial) fun v B3 H3 e3 hv => ?_)
    obtain ⟨z, hz17, rfl⟩ := hv
    have e13 := e12.trans L e3
    have m3 := m2.ext e3
    obtain ⟨l1, l2⟩ := m3.look e13.dl
    have zs20 : ∀ z ∈ zs, Nm z := fun z h => (hz z h).mono (by decide)
    have names : dat K (.list (zs.map .str)) (upd B3 M (.lst (zs.map V.str))) (.ref M) := .lst (SqL.of upd_same) (strs_dpAll zs)
    refine s_set (De.eq (De.lcD (K := K) (as := (Str.ofString "abcdefghij").cps.toList) (r := fun c => dat K (.str ⟨#[c]⟩)) (Di.str .str) (fun c => !decide (mulS ⟨#[c]⟩ 3 ∈ zs)) (fun c => .str (mulS ⟨#[c]⟩ 3)) (by decide +kernel) fun a x Bn Hn ha sn sh hx => ⟨_, fun Q q => q, rfl, ?_, fun _ => ?_⟩) (e := .list ((thrice.filter fun z => !decide (z ∈ zs)).map .str)) ?_) l2 fun v4 B4 H4 e4 h4 => ?_
    · have a3 : Nm (mulS ⟨#[a]⟩ 3) := (thrice_nm _ (List.mem_map.mpr ⟨a, ha, rfl⟩)).mono (by decide)
      refine Dt.eq (Dt.test (De.op (r := rNotInD K) (De.op (r := rMulS) (.var hx rfl) .int Rv.mulS3) (.var (Mo.mo sn names) rfl) (Rv.notInL (shaped_str a3) (shaped_strsL zs20)))) ?_
      rw [any_strs]
    · exact De.op (r := rMulS) (.var hx rfl) .int Rv.mulS3
    · unfold thrice
      rw [List.filter_map, List.map_map]
      rfl
    have e34 := Ml.looked e13.dl e4
    have m4 := m3.ext e34
    have e14 := e13.trans L e34
    have ne := spare_ne (zs := zs) (by omega)
    have sp : ∀ z ∈ thrice.filter (fun z => !decide (z ∈ zs)), z ∉ zs ∧ Nmk 17 z := fun z h => by
      obtain ⟨h1, h2⟩ := List.mem_filter.mp h
      exact ⟨by simpa using h2, thrice_nm z h1⟩
    generalize thrice.filter (fun z => !decide (z ∈ zs)) = out at h4 ne sp
    obtain ⟨s0, r0, rfl⟩ : ∃ s0 r0, out = s0 :: r0 := by
      cases out with
      | nil => exact absurd rfl ne
      | cons a b => exact ⟨a, b, rfl⟩
    obtain ⟨sn, s17⟩ := sp s0 List.mem_cons_self
    obtain ⟨q, ws, rfl, hq, hR⟩ := dat_lstR h4
    have ew := strs_vals (zs := s0 :: r0) hR
    subst ew
    have fin : ∀ y : Str, y ∉ zs → Nmk 17 y → Nd d c B H B1 (fun σ B' H' => ∃ v3 v4 v5 v6, σ = [some (.ref d), some (.int (n : Int)), some (.ref M), v3, v4, v5, v6] ∧ ∃ zs, Ml d c B' H' M (zs.map V.str) ∧ NmsOk (i + 1) zs) [some (.ref d), some (.int (n : Int)), some (.ref M), some v, some (.str z), some (.ref q), v6] (upd H4 M (.lst (zs.map V.str ++ [.str y]))) := fun y hy h17 => by
      refine ⟨B3, e14.setL m4 hM, (s1.trans e2.bb).trans e3.bb, _, _, _, _, rfl, zs ++ [y], ?_, by simp [lz], ?_, ?_⟩
      · rw [List.map_append]
        exact (Ml.set e14.dl m4).1
      · rw [List.nodup_append]
        refine ⟨nz, by simp, fun a ha b hb => ?_⟩
        rw [List.mem_singleton.mp hb]
        rintro rfl
        exact hy ha
      · intro x hx
        rcases List.mem_append.mp hx with h | h
        · exact hz x h
        · rw [List.mem_singleton.mp h]
          exact h17
    have few : (zs.map V.str).length < sizeLine := by rw [List.length_map, lz, sizeLine_eq]; omega
    refine ⟨_, rfl, .inl ⟨rfl, _, SqL.of m4.at_⟩, _, rfl, _, rfl, .str z, zs.map .str, .str z, .lst (SqL.of m4.at_) (strs_dpAll zs), shaped_str (hz17.mono (by decide)), shaped_strsL zs20, _, rfl, ?_⟩
    rw [any_strs]
    refine ite2 (fun h => ?_) (fun h => ?_)
    · have h : z ∉ zs := by simpa using h
      exact ⟨_, rfl, M, _, .str z, rfl, rfl, m4.at_, few, fin z h hz17⟩
    · exact ⟨_, rfl, q, _, 0, .str s0, rfl, rfl, e4.bh.seq hq, atI_nat (j := 0) rfl, M, _, .str s0, rfl, rfl, m4.at_, few, fin s0 sn s17⟩
  · rintro σ' B' H' e1 s1 ⟨v3, v4, v5, v6, rfl, zs, m1, lz, nz, hz⟩
    rw [List.length_map, List.length_range] at lz
    refine ⟨_, rfl, M, zs.map V.str, zs.map .str, rfl, SqL.of m1.at_, strs_dpAll zs, alike_str zs, sortok_str zs, depth_str zs, fun p hp => ?_⟩
    obtain ⟨ys, perm, es⟩ := sortD_strs zs
    refine k _ _ _ (e1.trans L (.of e1.dl (.new e1.bh hp))) ⟨ys, ⟨by rw [perm.length_eq, lz], perm.nodup_iff.mpr nz, fun z h => hz z (perm.mem_iff.mp h)⟩, ?_⟩
    rw [← es]
    exact .lst (SqL.of upd_same) (dp_sort (strs_dpAll zs))
theorem sc_lform : FnScope ["deal", "some", "product", "name", "many"] ["deal"] (defScope s_lform) := ⟨rfl, rfl, rfl, by decide +kernel, rfl, by decide +kernel, by decide +kernel⟩
theorem ok_lform (D : Def K mg "_law_form" s_lform ["deal"]) (C_lnames : Cal P w K mg base CX0 4 "_law_names" s_lnames ["deal", "many"] (sp_lnames K)) (C_of : Cal P w K mg base CX0 2 "_law_of" s_of ["deal", "some"] (spOf K)) (n_tuple : mg "tuple" = none) : Cal P w K mg base CX0 5 "_law_form" s_lform ["deal"] (sp_lform K) := by
  refine D.ok sc_lform (fun vs H Q E h => ?_) (fun cdv f A outer s H vs Q E hr h => ?_)
  · exact dpf_len h fun _ => rfl
  replace h := dpf0 h
  obtain ⟨d, c, B, _, rfl, L, _, k⟩ := h
  refine ⟨_, (pss_cons (ps_par (i := 1) (j := 2) rfl sc_lform.nd rfl rfl (by decide) rfl rfl (pa_cons (pe_lst pa_nil) (pa_cons pe_int pa_nil)) (by rfl))
    (pss_cons (ps_for PassesOwn.never rfl (pi_list (pe_cal C_lnames (hr.mono (by decide)) (by rfl) pass0 (pa_cons (pv 0) (pa_cons (pe_cal C_of (hr.mono (by decide)) (by rfl) pass0 (pa_cons (pv 0) (pa_cons (pe_lst (pa_cons pe_int (pa_cons pe_int (pa_cons pe_int (pa_cons pe_int (pa_cons pe_int (pa_cons pe_int pa_nil))))))) pa_nil))) pa_nil)))) (pg_name (i := 3) sc_lform.nd rfl (Or.inl rfl)) (pss_cons (ps_set (i := 4) sc_lform.nd rfl (Or.inl rfl) (pe_cal C_of (hr.mono (by decide)) (by rfl) pass0 (pa_cons (pv 0) (pa_cons (pe_lst (pa_cons pe_int (pa_cons pe_int (pa_cons pe_int (pa_cons pe_int pa_nil))))) pa_nil))))
      (pss_cons (ps_set (i := 4) sc_lform.nd rfl (Or.inl rfl) (pe_ifExp (pt_cmpR op_lt (pe_op op_mulW (pv 2) (pv 4)) pe_int (nomark _)) (pv 4) pe_int))
      (pss_cons (ps_expr (pe_bm PySem.F.plainAttrs_list PySem.F.slot_list_append PySem.F.type_list_append mt_append (pv 1) (pa_cons (pe_tup (pa_cons (pv 3) (pa_cons (pv 4) pa_nil))) pa_nil)))
      (pss_one (ps_set (i := 2) sc_lform.nd rfl (Or.inl rfl) (pe_op op_mulW (pv 2) (pv 4))))))))
    (pss_one (ps_ret (pe_callTy call_tuple_of (by rfl) n_tuple (by decide +kernel) (pa_cons (pv 1) pa_nil)))))), ?_⟩
  refine ⟨Nat.zero_le _, fun M hM => ⟨_, _, rfl, ?_⟩⟩
  obtain ⟨m0, e0⟩ := Ml.new (xs := []) L hM
  dsimp only
  refine s_forL (K := K) ?_
  refine ⟨_, rfl, c_ofL (K := K) e0.dl rfl (De.lstD (.cons .int (.cons .int (.cons .int (.cons .int (.cons .int (.cons .int .nil)))))) (by show 6 ≤ sizeLine; decide)) (by simp) (by show 6 ≤ 1000; decide) fun x v B1 H1 hx e1 hv => ?_⟩
  obtain ⟨n, rfl, n0, n4⟩ : ∃ n : Nat, x = .int (n : Int) ∧ 1 ≤ n ∧ n ≤ 4 := by
    simp only [List.mem_cons, List.not_mem_nil, or_false] at hx
    rcases hx with rfl | rfl | rfl | rfl | rfl | rfl
    · exact ⟨1, rfl, by decide, by decide⟩
    · exact ⟨2, rfl, by decide, by decide⟩
    · exact ⟨2, rfl, by decide, by decide⟩
    · exact ⟨3, rfl, by decide, by decide⟩
    · exact ⟨3, rfl, by decide, by decide⟩
    · exact ⟨4, rfl, by decide, by decide⟩
  refine ⟨d, c, B1, n, [v], rfl, e1.dl, ⟨v, [], rfl, hv, rfl⟩, by omega, fun v2 B2 H2 e2 hv2 => ?_⟩
  obtain ⟨zs, ⟨lz, nz, hz⟩, hl⟩ := hv2
  obtain ⟨a, xs, rfl, hs, hR⟩ := dat_lstR hl
  have e02 := (e0.trans L e1).trans L e2
  refine ⟨a, rfl, ⟨xs, e02.bh.seq hs⟩, ?_⟩
  have m2 := (m0.ext e1).ext e2
  refine s_forD L e02 (Di.itl (K := K) hl) (fun i σ B' H' => ∃ v3 v4, ∃ p : Nat, σ = [some (.ref d), some (.ref M), some (.int (p : Int)), v3, v4] ∧ p ≤ 4 ^ i ∧ ∃ (qs : Qs) (ws : List V), Ml d c B' H' M ws ∧ AllR (qs.map fun q => dat K (encQ q)) B' ws ∧ Fm.names qs = zs.take i ∧ ∀ q ∈ qs, 2 ≤ q.2 ∧ q.2 ≤ 4) (fun B3 H3 e => ⟨_, _, 1, rfl, Nat.le_refl _, [], [], m2.ext e, rfl, rfl, fun q h => nomatch h⟩) ?_ ?_
  · rintro B3 i R v σ' Bc Hc Bn Hn sB hR e3 s3 ⟨v3, v4, p, rfl, hp, qs, ws, m3, hw, nm, sm⟩ e4 hx
    rw [List.getElem?_map, List.getElem?_map] at hR
    obtain ⟨_, hn', rfl⟩ := Option.map_eq_some_iff.mp hR
    obtain ⟨z, hzi, rfl⟩ := Option.map_eq_some_iff.mp hn'
    have hx := dat_str hx
    subst hx
    have i4 : i < 4 := by
      have := (List.getElem?_eq_some_iff.mp hzi).1
      omega
    have p4 : 4 ^ i ≤ 4 ^ 3 := Nat.pow_le_pow_right (by decide) (by omega)
    have e14 := e3.trans L e4
    refine s_raw (c_ofL (K := K) e14.dl rfl (De.lstD (.cons .int (.cons .int (.cons .int (.cons .int .nil)))) (by show 4 ≤ sizeLine; decide)) (by simp) (by show 4 ≤ 1000; decide) fun x v5 B5 H5 hx e5 hv5 => ?_)
    obtain ⟨m, rfl, m1, m4⟩ : ∃ m : Nat, x = .int (m : Int) ∧ 2 ≤ m ∧ m ≤ 4 := by
      simp only [List.mem_cons, List.not_mem_nil, or_false] at hx
      rcases hx with rfl | rfl | rfl | rfl
      · exact ⟨2, rfl, by decide, by decide⟩
      · exact ⟨2, rfl, by decide, by decide⟩
      · exact ⟨3, rfl, by decide, by decide⟩
      · exact ⟨4, rfl, by decide, by decide⟩
    have hv5 := dat_int hv5
    subst hv5
    have e15 := e14.trans L e5
    have m5 := (m3.ext e4).ext e5
    have wide : ∀ {x y : Nat}, x ≤ 256 → y ≤ 256 → CMulW (x : Int) (y : Int) := fun h1 h2 => wide_mul (a := 20) (b := 20) (by omega) (by omega) (by decide) (by decide) (by decide)
    obtain ⟨t, ht, t2, t4⟩ : ∃ t : Nat, (if decide ((p : Int) * (m : Int) < 49) = true then PyData.int (m : Int) else .int 2) = .int (t : Int) ∧ 2 ≤ t ∧ t ≤ 4 := by
      by_cases q : (p : Int) * (m : Int) < 49
      · exact ⟨m, by simp [q], m1, m4⟩
      · exact ⟨2, by simp [q], by decide, by decide⟩
    refine s_set (De.eq (De.iteD (K := K) (b := decide ((p : Int) * (m : Int) < 49)) (Dt.test (K := K) (De.op (r := rI0 fun i j => V.bl (decide (i < j))) (De.op (r := rI CMulW fun i j => V.int (i * j)) (.var (Dp.int _) rfl) (.var (Dp.int _) rfl) (Rv.I (wide (by omega) (by omega)))) .int Rv.I0b)) (fun _ => .var (Dp.int _) rfl) (fun _ => .int)) ht) e15.bh fun v6 B6 H6 e6 h6 => ?_
    have h6 := dat_int h6
    subst h6
    have e6 := ExtD.of e15.dl e6
    have e16 := e15.trans L e6
    have m6 := m5.ext e6
    have lw := allR_len hw
    have lq : qs.length = i := by
      have := congrArg List.length nm
      unfold Fm.names at this
      rw [List.length_map, List.length_take] at this
      have := (List.getElem?_eq_some_iff.mp hzi).1
      omega
    rw [List.length_map, lq] at lw
    refine ⟨_, rfl, .inl ⟨rfl, _, SqL.of m6.at_⟩, _, rfl, _, rfl, (by show 2 ≤ sizeLine; decide), fun r hr => ⟨M, ws, .ref r, rfl, rfl, ?_, by rw [lw, sizeLine_eq]; omega, _, rfl, _, rfl, _, _, rfl, rfl, wide (by omega) (by omega), ?_⟩⟩
    · exact new_same hr _ _ m6.at_
    have e7 := ExtD.of e16.dl (Ext.new (o := .tup [.str z, .int (t : Int)]) e16.bh hr)
    have e17 := e16.trans L e7
    have m7 := m6.ext e7
    refine ⟨_, e17.setL m7 hM, (((s3.trans e4.bb).trans e5.bb).trans e6.bb).trans e7.bb, some (.str z), some (.int (t : Int)), p * t, ?_, ?_, qs ++ [(z, t)], _, (Ml.set e17.dl m7).1, ?_, ?_, ?_⟩
    · rw [Int.natCast_mul]
      rfl
    · rw [Nat.pow_succ]
      exact Nat.mul_le_mul hp t4
    · rw [List.map_append]
      have : MoA (qs.map fun q => dat K (encQ q)) := mos_dats
      exact allR_snoc (MoA.mo (((e4.bb.trans e5.bb).trans e6.bb).trans e7.bb) hw) (Dp.tup (SqT.of upd_same) (.cons (.str z) (.cons (.int _) .nil)))
    · unfold Fm.names at *
      rw [List.map_append, nm, take_snoc hzi]
      rfl
    · intro q hq
      rcases List.mem_append.mp hq with h | h
      · exact sm q h
      · rw [List.mem_singleton.mp h]
        exact ⟨t2, t4⟩
  · rintro σ' B' H' e3 s3 ⟨v3, v4, p, rfl, hp, qs, ws, m3, hw, nm, sm⟩
    rw [List.length_map, List.length_map, List.take_of_length_le (Nat.le_refl _)] at nm
    refine ⟨_, rfl, M, ws, rfl, .inl ⟨SqL.of m3.at_, fun r hr => ?_⟩⟩
    have lq : qs.length = zs.length := by
      have := congrArg List.length nm
      unfold Fm.names at this
      rw [List.length_map] at this
      exact this
    have e4 := ExtD.of e3.dl (Ext.new (o := .tup ws) e3.bh hr)
    have : MoA (qs.map fun q => dat K (encQ q)) := mos_dats
    refine k _ _ _ (e3.trans L e4) ⟨qs, ⟨by omega, by omega, sm, by rw [nm]; exact nz, by rw [nm]; exact hz⟩, ?_⟩
    refine Dp.tup (SqT.of upd_same) (allR_dp ?_)
    rw [List.map_map]
    have : MoA (qs.map (dat K ∘ encQ)) := mos_dats
    exact MoA.mo e4.bb hw
end
end K04

set_option Elab.async false
set_option linter.all false
set_option maxRecDepth 100000
set_option maxHeartbeats 4000000
/-! K04e: what the law asks of a form. -/
namespace K04
open PySem PySem.Spec PyProof.Rows L2 Wb Wv Fm
/-- what is told of a name -/
def toldD (qs : Qs) (d : PyData) (way : Int) : PyData := match placeD (names qs) d with
  | some i => if way = 0 then .int (i : Int) else .int (((qs[i]?.map (·.2)).getD 0 : Nat) : Int)
  | none => .list [.str "no", d]
abbrev sp_told (K : PySem.W.Frag) (C : Addr) : Sp := Pf (α := Qs × PyData × Int) (fun a => [formR K C a.1, dat K a.2.1, dat K (.int a.2.2)]) (fun a => Small a.1 ∧ (∀ z ∈ names a.1, Nm z) ∧ SeqAt.shaped a.2.1 = true) (fun a => dat K (toldD a.1 a.2.1 a.2.2))
section
variable {P : Program} {w : World} {K : PySem.W.Frag} {mg : Str → Option Value} {base : Heap} {C_Form C_NoName C_BlankError : Addr}
theorem sc_told : FnScope ["form", "name", "way", "e"] ["form", "name", "way"] (defScope s_told) := ⟨rfl, rfl, rfl, by decide +kernel, rfl, by decide +kernel, by decide +kernel⟩
theorem ok_told (D : Def K mg "_law_told" s_told ["form", "name", "way"]) (C_placeOf : Cal P w K mg base (L2.CX P w) 3 "place_of" s_placeOf ["form", "name"] (spPlace K C_Form C_NoName)) (C_answersOf : Cal P w K mg base (L2.CX P w) 4 "answers_of" s_answersOf ["form", "name"] (spAnswers K C_Form C_NoName)) (n_KeyError : mg "KeyError" = none) (n_isinstance : mg "isinstance" = none) (Z_BlankError : ErrB K mg "BlankError" C_BlankError topB) (Z_NoName : Err P w K mg base "NoName" "name" C_NoName topK) (ne_NB : C_NoName ≠ C_BlankError) : Cal P w K mg base CX0 5 "_law_told" s_told ["form", "name", "way"] (sp_told K C_Form) := by
  refine D.ok sc_told (fun vs H Q E h => ?_) (fun cdv f A outer s H vs Q E hr h => ?_)
  · exact pf_len h fun _ => rfl
  replace h := pf3 h
  obtain ⟨v, v1, v2, B, ⟨qs, nd, way⟩, rfl, hB, hv, hv1, hv2, ⟨sm, nm, sd⟩, k⟩ := h
  refine ⟨_, (pss_one (ps_try_as (i := 3) rfl rfl sc_told.nd rfl rfl ⟨rfl, by decide, .inl Z_NoName.g⟩ takes0 (fun W pn xe tk _ => (pss_one (ps_ret (pe_ifExp (pt_cmpR op_eq (pv 2) pe_int (nomark _)) (pe_calS C_placeOf (hr.mono (by decide)) (by rfl) (fun σ => passAt tk σ) (pa_cons (pv 0) (pa_cons (pv 1) pa_nil))) (pe_calS C_answersOf (hr.mono (by decide)) (by rfl) (fun σ => passAt tk σ) (pa_cons (pv 0) (pa_cons (pv 1) pa_nil))))))) (fun a oe cls d pn hz hf => (pss_one (ps_ret (pe_ifExp (PW.pt (pw_and (pt_val (pe_callB (call_isX hz hf) (by rfl) n_isinstance (by decide +kernel) (pa_cons (pv 3) (pa_cons (pe_bltn (by rfl) n_KeyError (by decide +kernel) (show RelV (.ty "KeyError") (.type "KeyError") from rfl)) pa_nil)))) (pw_and1 (pt_not (pt_val (pe_callB (call_isX hz hf) (by rfl) n_isinstance (by decide +kernel) (pa_cons (pv 3) (pa_cons (pe_glob (by rfl) Z_BlankError.g (show RelV (.ref C_BlankError) (.ref C_BlankError) from rfl)) pa_nil)))))))) (pe_lst (pa_cons pe_str (pa_cons (pe_errF hz hf (pv 3)) pa_nil))) pe_str)))))), ?_⟩
  have hv2 := dat_int hv2
  subst hv2
  have k : ∀ (v : V) (B' H' : Hp), Ext B H B' H' → dat K (toldD qs nd way) B' v → Q v H' := k
  unfold toldD at k
  have isK : PySem.W.kitOne K (.ref C_NoName) (.type "KeyError") = some true := by
    rw [Z_NoName.row.one_ty (by decide +kernel)]
    rfl
  have isB : PySem.W.kitOne K (.ref C_NoName) (.ref C_BlankError) = some false := by
    rw [Z_NoName.row.one_ref Z_BlankError.row]
    simp [topK, ne_NB]
  refine ⟨_, rfl, rfl, _, rfl, ?_⟩
  refine ite2 (fun h => ?_) (fun h => ?_)
  · have w0 : way = 0 := by
      have := of_decide_eq_true h
      exact V.int.inj this
    refine ⟨_, rfl, _, rfl, v, v1, B, qs, nd, rfl, hB, hv, hv1, sm, nm, sd, fun i hi B' H' e => ?_, fun hi B' H' dx e hdx => ?_⟩
    · rw [hi] at k
      have k : ∀ (v : V) (B' H' : Hp), Ext B H B' H' → dat K (if way = 0 then PyData.int (i : Int) else .int (((qs[i]?.map (·.2)).getD 0 : Nat) : Int)) B' v → Q v H' := k
      rw [if_pos w0] at k
      exact k _ B' H' e (Dp.int _)
    have atd : upd H' dx (.xd [("name", v1)]) dx = some (.xd [("name", v1)]) := upd_same
    refine ⟨true, Z_NoName.exm_self rfl, fun _ ae hae => ?_, fun q => nomatch q⟩
    refine ⟨_, rfl, C_NoName, _, _, true, rfl, rfl, (fun dd e => by cases e; exact ⟨_, atd⟩), Z_NoName.T, .ty "KeyError", isK, _, rfl, ?_⟩
    refine iteT ?_
    refine ⟨_, rfl, C_NoName, _, _, false, rfl, rfl, (fun dd e => by cases e; exact ⟨_, atd⟩), Z_NoName.T, .own _, isB, _, rfl, ?_⟩
    refine iteT ?_
    rw [hi] at k
    have k : ∀ (v : V) (B' H' : Hp), Ext B H B' H' → dat K (.list [.str "no", nd]) B' v → Q v H' := k
    have e2 := e.trans (.own (o := .xd [("name", v1)]) e.bh hdx)
    refine ⟨_, rfl, rfl, C_NoName, dx, _, rfl, rfl, Z_NoName.T, Z_NoName.no, atd, (by show 2 ≤ sizeLine; decide), fun l hl => ?_⟩
    have e3 := e2.trans (.new (o := .lst [.str "no", v1]) e2.bh hl)
    exact k _ _ _ e3 (Dp.lst (SqL.of upd_same) (.cons (.str _) (.cons (Mo.mo (R := dat K nd) e3.bb hv1) .nil)))
  · have w0 : way ≠ 0 := fun z => h (decide_eq_true (by rw [z]))
    refine ⟨_, rfl, _, rfl, v, v1, B, qs, nd, rfl, hB, hv, hv1, sm, nm, sd, fun i q hi hq B' H' e => ?_, fun hi B' H' dx e hdx => ?_⟩
    · rw [hi] at k
      have k : ∀ (v : V) (B' H' : Hp), Ext B H B' H' → dat K (if way = 0 then PyData.int (i : Int) else .int (((qs[i]?.map (·.2)).getD 0 : Nat) : Int)) B' v → Q v H' := k
      rw [if_neg w0, hq] at k
      exact k _ B' H' e (Dp.int _)
    have atd : upd H' dx (.xd [("name", v1)]) dx = some (.xd [("name", v1)]) := upd_same
    refine ⟨true, Z_NoName.exm_self rfl, fun _ ae hae => ?_, fun q => nomatch q⟩
    refine ⟨_, rfl, C_NoName, _, _, true, rfl, rfl, (fun dd e => by cases e; exact ⟨_, atd⟩), Z_NoName.T, .ty "KeyError", isK, _, rfl, ?_⟩
    refine iteT ?_
    refine ⟨_, rfl, C_NoName, _, _, false, rfl, rfl, (fun dd e => by cases e; exact ⟨_, atd⟩), Z_NoName.T, .own _, isB, _, rfl, ?_⟩
    refine iteT ?_
    rw [hi] at k
    have k : ∀ (v : V) (B' H' : Hp), Ext B H B' H' → dat K (.list [.str "no", nd]) B' v → Q v H' := k
    have e2 := e.trans (.own (o := .xd [("name", v1)]) e.bh hdx)
    refine ⟨_, rfl, rfl, C_NoName, dx, _, rfl, rfl, Z_NoName.T, Z_NoName.no, atd, (by show 2 ≤ sizeLine; decide), fun l hl => ?_⟩
    have e3 := e2.trans (.new (o := .lst [.str "no", v1]) e2.bh hl)
    exact k _ _ _ e3 (Dp.lst (SqL.of upd_same) (.cons (.str _) (.cons (Mo.mo (R := dat K nd) e3.bb hv1) .nil)))
end
end K04

set_option Elab.async false
set_option linter.all false
set_option maxRecDepth 100000
set_option maxHeartbeats 4000000
/-! Wv7: comparisons of what is the same. -/
namespace Wv
open PySem PySem.Spec PyProof.Rows L2 Wb
theorem eqv_shaped {d : PyData} (h : SeqAt.shaped d = true) : PyData.eqv d d = true := by
  unfold SeqAt.shaped at h
  rw [Bool.and_eq_true] at h
  exact SeqAt.eqv_refl d h.1
section
variable {K : PySem.W.Frag} {σ : L2.St} {B H : Hp} {ta tb te tk : TE} {tt tu : TT} {R S T : Rel} {d e : PyData}
theorem De.reprs (ha : De ta σ B (dat K d)) (hb : De tb σ B (dat K d)) (hs : Shw d) : De (tOp rEq (tCB (rShow K) (tCons ta tNil)) (tCB (rShow K) (tCons tb tNil))) σ B (dat K (.bool true)) := De.eq (.op (.show ha hs) (.show hb hs) Rv.eqS) (by simp)
theorem De.same (ha : De ta σ B (dat K d)) (hb : De tb σ B (dat K d)) (hs : SeqAt.shaped d = true) : De (tOp (rEqD K) ta tb) σ B (dat K (.bool true)) := De.eq (.op ha hb (Rv.eqD hs hs)) (by rw [eqv_shaped hs])
theorem Dt.reprs (ha : De ta σ B (dat K d)) (hb : De tb σ B (dat K d)) (hs : Shw d) : Dt (tTest (tOp rNe (tCB (rShow K) (tCons ta tNil)) (tCB (rShow K) (tCons tb tNil)))) σ B false := Dt.eq (.test (K := K) (.op (.show ha hs) (.show hb hs) Rv.neS)) (by simp)
theorem Dt.same (ha : De ta σ B (dat K d)) (hb : De tb σ B (dat K d)) (hs : SeqAt.shaped d = true) : Dt (tTest (tOp (rNeD K) ta tb)) σ B false := Dt.eq (.test (K := K) (.op ha hb (Rv.neD hs hs))) (by rw [eqv_shaped hs]; rfl)
theorem Dt.sameI {i : Int} (ha : De ta σ B (dat K (.int i))) (hb : De tb σ B (dat K (.int i))) : Dt (tTest (tOp rNe ta tb)) σ B false := Dt.eq (.test (K := K) (.op ha hb Rv.neI)) (by simp)
theorem Dt.or2 (h1 : Dt tt σ B false) (h2 : Dt tu σ B false) : Dt (tOr tt tu) σ B false := .or h1 fun _ => h2
theorem De.and2 (h1 : De ta σ B (dat K (.bool true))) (h2 : De tb σ B (dat K (.bool true))) : De (tAndV ta tb) σ B (dat K (.bool true)) := .andV h1 fun _ => h2
end
section
variable {R R1 R2 : Rel} {B : Hp} {vs : List V}
theorem kw1 (h : AllR [R] B vs) : AllR [R] B (kwV [0] vs) := by
  obtain ⟨v, r, rfl, h1, h⟩ := h
  exact ⟨v, [], rfl, h1, rfl⟩
theorem kw2 (h : AllR [R1, R] B vs) : AllR [R, R1] B (kwV [1, 0] vs) := by
  obtain ⟨v, r, rfl, h1, v1, r1, rfl, h2, h⟩ := h
  exact ⟨v1, [v], rfl, h2, v, [], rfl, h1, rfl⟩
theorem kw3 (h : AllR [R2, R1, R] B vs) : AllR [R, R1, R2] B (kwV [2, 1, 0] vs) := by
  obtain ⟨v, r, rfl, h1, v1, r1, rfl, h2, v2, r2, rfl, h3, h⟩ := h
  exact ⟨v2, _, rfl, h3, v1, _, rfl, h2, v, [], rfl, h1, rfl⟩
end
end Wv

set_option Elab.async false
set_option linter.all false
set_option maxRecDepth 100000
set_option maxHeartbeats 4000000
/-! K04f: what the law asks of lots and sheets. -/
namespace K04
open PySem PySem.Spec PyProof.Rows L2 Wb Wv Fm
theorem kw_namesOf : Kw "names_of" s_namesOf ["form"] ["form"] [0] := ⟨rfl, fun _ _ _ _ _ _ _ ws hl => match ws, hl with | [_], _ => .of_eq rfl⟩
theorem kw_truths : Kw "truths" s_truths ["form"] ["form"] [0] := ⟨rfl, fun _ _ _ _ _ _ _ ws hl => match ws, hl with | [_], _ => .of_eq rfl⟩
theorem kw_lots : Kw "lots" s_lots ["form"] ["form"] [0] := ⟨rfl, fun _ _ _ _ _ _ _ ws hl => match ws, hl with | [_], _ => .of_eq rfl⟩
theorem kw_allSheets : Kw "all_sheets" s_allSheets ["form"] ["form"] [0] := ⟨rfl, fun _ _ _ _ _ _ _ ws hl => match ws, hl with | [_], _ => .of_eq rfl⟩
theorem kw_lotsWithin : Kw "lots_within" s_lotsWithin ["lot"] ["lot"] [0] := ⟨rfl, fun _ _ _ _ _ _ _ ws hl => match ws, hl with | [_], _ => .of_eq rfl⟩
theorem kw_withoutNames : Kw "without_names" s_withoutNames ["lot", "names"] ["names", "lot"] [1, 0] := ⟨rfl, fun _ _ _ _ _ _ _ ws hl => match ws, hl with | [_, _], _ => .of_eq rfl⟩
theorem kw_sheetOf : Kw "sheet_of" s_sheetOf ["form", "lot", "truth"] ["truth", "lot", "form"] [2, 1, 0] := ⟨rfl, fun _ _ _ _ _ _ _ ws hl => match ws, hl with | [_, _, _], _ => .of_eq rfl⟩
theorem kw_lotOf : Kw "lot_of" s_lotOf ["form", "sheet"] ["sheet", "form"] [1, 0] := ⟨rfl, fun _ _ _ _ _ _ _ ws hl => match ws, hl with | [_, _], _ => .of_eq rfl⟩
theorem kw_truthsBehind : Kw "truths_behind" s_truthsBehind ["form", "sheet"] ["sheet", "form"] [1, 0] := ⟨rfl, fun _ _ _ _ _ _ _ ws hl => match ws, hl with | [_, _], _ => .of_eq rfl⟩
theorem kw_placeOf : Kw "place_of" s_placeOf ["form", "name"] ["name", "form"] [1, 0] := ⟨rfl, fun _ _ _ _ _ _ _ ws hl => match ws, hl with | [_, _], _ => .of_eq rfl⟩
theorem kw_answersOf : Kw "answers_of" s_answersOf ["form", "name"] ["name", "form"] [1, 0] := ⟨rfl, fun _ _ _ _ _ _ _ ws hl => match ws, hl with | [_, _], _ => .of_eq rfl⟩
/-! ### what may be shown -/
theorem tb_nm {n : Nat} {z : Str} (h : Nmk n z) : Tb 0 n (.str z) := tb_str (fun a ha => Nat.lt_trans (h.2 a ha) (by decide)) h.1
theorem tb_lot {l : List Str} (h : ∀ z ∈ l, Nm z) (few : l.length ≤ 4) : Tb 1 84 (lotD l) := by
  refine ((TbAll.of (n := 0) (W := 20) (es := l.map .str) fun e he => ?_).tuple).more (Nat.le_refl _) ?_
  · obtain ⟨z, hz, rfl⟩ := List.mem_map.mp he
    exact tb_nm (h z hz)
  · rw [List.length_map]
    omega
theorem tb_lots {ls : List (List Str)} (h : ∀ l ∈ ls, (∀ z ∈ l, Nm z) ∧ l.length ≤ 4) (few : ls.length ≤ 16) : Tb 2 1360 (.tuple (ls.map lotD)) := by
  refine ((TbAll.of (n := 1) (W := 84) (es := ls.map lotD) fun e he => ?_).tuple).more (Nat.le_refl _) ?_
  · obtain ⟨l, hl, rfl⟩ := List.mem_map.mp he
    exact tb_lot (h l hl).1 (h l hl).2
  · rw [List.length_map]
    omega
theorem tb_row {r : List Int} (few : r.length ≤ 4) (h : ∀ i ∈ r, i.natAbs ≤ 100) : Tb 1 4 (rowD r) := by
  refine ((TbAll.of (n := 0) (W := 0) (es := r.map .int) fun e he => ?_).tuple).more (Nat.le_refl _) ?_
  · obtain ⟨i, hi, rfl⟩ := List.mem_map.mp he
    refine tb_int (Nat.lt_of_le_of_lt (h i hi) ?_)
    exact Nat.lt_of_lt_of_le (show 100 < 2 ^ 7 by decide) (Nat.pow_le_pow_right (by decide) (by decide))
  · rw [List.length_map]
    omega
theorem tb_rows {rs : List (List Int)} (h : ∀ r ∈ rs, r.length ≤ 4 ∧ ∀ i ∈ r, i.natAbs ≤ 100) (few : rs.length ≤ 625) : Tb 2 3125 (rowsT rs) := by
  refine ((TbAll.of (n := 1) (W := 4) (es := rs.map rowD) fun e he => ?_).tuple).more (Nat.le_refl _) ?_
  · obtain ⟨r, hr, rfl⟩ := List.mem_map.mp he
    exact tb_row (h r hr).1 (h r hr).2
  · rw [List.length_map]
    omega
theorem sortD_lots (ls : List (List Str)) : ∃ ys : List (List Str), ys.Perm ls ∧ sortD (ls.map lotD) = ys.map lotD := by
  refine ⟨ls.mergeSort fun a b => dle (lotD a) (lotD b), List.mergeSort_perm _ _, ?_⟩
  unfold sortD
  rw [List.map_mergeSort (s := dle) (f := lotD) (fun a _ b _ => rfl)]
theorem subs_in {l a : List Str} (h : a ∈ subs l) : ∀ z ∈ a, z ∈ l := by
  suffices ∀ k, k ≤ l.length → ∀ a ∈ subs (l.take k), ∀ z ∈ a, z ∈ l from this l.length (Nat.le_refl _) a (by rw [List.take_length]; exact h)
  intro k
  induction k with
  | zero =>
    intro _ a ha z hz
    rw [List.take_zero] at ha
    have ha : a ∈ [[]] := ha
    rw [List.mem_singleton.mp ha] at hz
    cases hz
  | succ k ih =>
    intro hk a ha z hz
    have e : l.take (k + 1) = l.take k ++ [l[k]] := by rw [List.take_succ, List.getElem?_eq_getElem (by omega)]; rfl
    rw [e, subs_snoc] at ha
    rcases List.mem_append.mp ha with ha | ha
    · exact ih (by omega) a ha z hz
    · obtain ⟨b, hb, rfl⟩ := List.mem_map.mp ha
      rcases List.mem_append.mp hz with hz | hz
      · exact ih (by omega) b hb z hz
      · rw [List.mem_singleton.mp hz]
        exact List.getElem_mem _
theorem shw_lots {l : List Str} (h : ∀ z ∈ l, Nm z) (few : l.length ≤ 4) : Shw (.tuple (lotsD l)) := by
  obtain ⟨ys, perm, e⟩ := sortD_lots (subs l)
  unfold lotsD
  rw [e]
  refine (tb_lots (fun a ha => ?_) ?_).shw
  · have ha := perm.mem_iff.mp ha
    exact ⟨fun z hz => h z (subs_in ha z hz), Nat.le_trans (subs_row ha) few⟩
  · rw [perm.length_eq]
    have := subs_len l l.length (Nat.le_refl _)
    rw [List.take_length] at this
    rw [this]
    exact Nat.pow_le_pow_right (n := 2) (j := 4) (by decide) few
theorem Shw.shaped {d : PyData} (h : Shw d) : d.depth ≤ 64 := Nat.le_trans h.2.2.1 (by decide)
theorem lay_lots : ∀ ls : List (List Str), (∀ l ∈ ls, ∀ z ∈ l, Nm z) → PyData.canLayAll0 (ls.map lotD) = true
  | [], _ => by simp [PyData.canLayAll0]
  | l :: ls, h => by
    rw [List.map_cons]
    simp only [PyData.canLayAll0, Bool.and_eq_true]
    exact ⟨by simp only [lotD, PyData.canLay0]; exact lay_strs (h l List.mem_cons_self), lay_lots ls fun a ha => h a (List.mem_cons_of_mem _ ha)⟩
theorem shaped_lots {l : List Str} (h : ∀ z ∈ l, Nm z) (few : l.length ≤ 4) : SeqAt.shaped (.tuple (lotsD l)) = true := by
  have s := Shw.shaped (shw_lots h few)
  unfold SeqAt.shaped
  rw [Bool.and_eq_true]
  refine ⟨?_, decide_eq_true s⟩
  obtain ⟨ys, perm, e⟩ := sortD_lots (subs l)
  unfold lotsD
  rw [e]
  simp only [PyData.canLay0]
  exact lay_lots ys fun a ha z hz => h z (subs_in (perm.mem_iff.mp ha) z hz)
theorem lay_rows : ∀ rs : List (List Int), PyData.canLayAll0 (rs.map rowD) = true
  | [] => by simp [PyData.canLayAll0]
  | l :: ls => by
    rw [List.map_cons]
    simp only [PyData.canLayAll0, Bool.and_eq_true]
    exact ⟨by simp only [rowD, PyData.canLay0]; exact lay_ints _, lay_rows ls⟩
theorem depth_rows : ∀ rs : List (List Int), PyData.depthAll (rs.map rowD) ≤ 1
  | [] => by simp [PyData.depthAll]
  | l :: ls => by
    have := depth_rows ls
    simp only [List.map_cons, PyData.depthAll, rowD, PyData.depth, depth_ints]
    omega
theorem shaped_rows (rs : List (List Int)) : SeqAt.shaped (rowsT rs) = true := by
  unfold SeqAt.shaped rowsT
  rw [Bool.and_eq_true]
  refine ⟨by simp only [PyData.canLay0]; exact lay_rows rs, decide_eq_true ?_⟩
  have := depth_rows rs
  simp only [PyData.depth]
  omega
abbrev sp_lotsR (K : PySem.W.Frag) : Sp := Pf (α := List Str × List Str) (fun a => [dat K (lotD a.1), dat K (lotD a.2)]) (fun a => a.1.length ≤ 4 ∧ (∀ z ∈ a.1, Nm z) ∧ ∀ z ∈ a.2, Nm z) (fun _ => dat K (.bool true))
section
variable {P : Program} {w : World} {K : PySem.W.Frag} {mg : Str → Option Value} {base : Heap} {C_Form C_NoName C_BlankError : Addr}
theorem sc_lotsR : FnScope ["lot", "names", "due", "name"] ["lot", "names"] (defScope s_lotsR) := ⟨rfl, rfl, rfl, by decide +kernel, rfl, by decide +kernel, by decide +kernel⟩
theorem ok_lotsR (D : Def K mg "_law_lots_right" s_lotsR ["lot", "names"]) (C_lotsWithin : Cal P w K mg base CX0 1 "lots_within" s_lotsWithin ["lot"] (spWithin K)) (n_repr : mg "repr" = none) (C_subsets : Cal P w K mg base CX0 1 "_law_subsets" s_subsets ["names"] (sp_subsets K)) (n_tuple : mg "tuple" = none) (C_withoutNames : Cal P w K mg base CX0 1 "without_names" s_withoutNames ["lot", "names"] (spWithout K)) : CalG P w K mg base CX0 2 "_law_lots_right" s_lotsR ["lot", "names"] (sp_lotsR K) := by
  refine D.okG sc_lotsR (fun vs H Q E h => ?_) (fun cdv f A outer s H vs Q E gd hr h => ?_)
  · exact pf_len h fun _ => rfl
  replace h := pf2 h
  obtain ⟨v, v1, B, ⟨l, ns⟩, rfl, hB, hv, hv1, ⟨few, nl, nn⟩, k⟩ := h
  refine ⟨_, (pss_cons (ps_if (PW.pt (pw_or (pt_cmpR op_ne (pe_callB (call_show gd hr.units) (by rfl) n_repr (by decide +kernel) (pa_cons (pe_cal C_lotsWithin (hr.mono (by decide)) (by rfl) pass0 (pa_cons (pv 0) pa_nil)) pa_nil)) (pe_callB (call_show gd hr.units) (by rfl) n_repr (by decide +kernel) (pa_cons (pe_callTy call_tuple_of (by rfl) n_tuple (by decide +kernel) (pa_cons (pe_cal C_subsets (hr.mono (by decide)) (by rfl) pass0 (pa_cons (pv 0) pa_nil)) pa_nil)) pa_nil)) (nomark _)) (pw_or1 (pt_cmpR (op_neD hr.units) (pe_calK C_lotsWithin (hr.mono (by decide)) (by rfl) pass0 kw_lotsWithin (pk_cons (pv 0) pk_nil)) (pe_callTy call_tuple_of (by rfl) n_tuple (by decide +kernel) (pa_cons (pe_cal C_subsets (hr.mono (by decide)) (by rfl) pass0 (pa_cons (pv 0) pa_nil)) pa_nil)) (nomark _))))) (pss_one (ps_ret pe_bl)) pss_nil)
    (pss_cons (ps_set (i := 2) sc_lotsR.nd rfl (Or.inl rfl) (pe_callTy call_tuple_of (by rfl) n_tuple (by decide +kernel) (pa_cons (pe_lc (own := [("name", 3)]) (g := gName 3) rfl sc_lotsR.nd (pi_tup (pv 0)) (blkOk_by (own := [("name", 3)]) (N := ["lot", "names", "due", "name"]) (sc := defScope s_lotsR) (by decide +kernel)) (fun _ _ _ _ _ => (pg_name (i := 3) sc_lotsR.nd rfl (Or.inl rfl))) (fun _ _ _ _ _ => pts_one (pt_not (pt_cmpR (r := rInT K false) (op_inT hr.u65) (pv 3) (pv 1) rfl))) (fun _ _ _ _ _ => (pv 3))) pa_nil)))
    (pss_one (ps_ret (pe_and (pe_cmpR op_eq (pe_callB (call_show gd hr.units) (by rfl) n_repr (by decide +kernel) (pa_cons (pe_cal C_withoutNames (hr.mono (by decide)) (by rfl) pass0 (pa_cons (pv 0) (pa_cons (pv 1) pa_nil))) pa_nil)) (pe_callB (call_show gd hr.units) (by rfl) n_repr (by decide +kernel) (pa_cons (pv 2) pa_nil)) (nomark _)) (pe_one (pe_cmpR (op_eqD hr.units) (pe_calK C_withoutNames (hr.mono (by decide)) (by rfl) pass0 kw_withoutNames (pk_cons (pv 1) (pk_cons (pv 0) pk_nil))) (pv 2) (nomark _)))))))), ?_⟩
  have few : l.length ≤ 4 := few
  have nl : ∀ z ∈ l, Nm z := nl
  have nn : ∀ z ∈ ns, Nm z := nn
  have hv : dat K (lotD l) B v := hv
  have hv1 : dat K (lotD ns) B v1 := hv1
  refine s_skip (Dt.or2 (Dt.reprs (K := K) (De.call l (.one (.var hv rfl)) few) (De.tupleL (De.call (true, l) (.one (.var hv rfl)) few)) (shw_lots nl few)) (Dt.same (K := K) (De.callK l (.one (.var hv rfl)) rfl (fun _ _ => kw1) few) (De.tupleL (De.call (true, l) (.one (.var hv rfl)) few)) (shaped_lots nl few))) hB fun B1 H1 e1 => ?_
  refine s_set (De.eq (De.tupleL (K := K) (De.lcD (as := l) (r := fun z => dat K (.str z)) (Di.tupM (f := PyData.str) (.var (Mo.mo e1.bb hv) rfl)) (fun z => !decide (z ∈ ns)) (fun z => .str z) (by rw [sizeLine_eq]; omega) fun z x Bn Hn hz s _ hx => ⟨[some v, some v1, none, some x], fun Q z => z, rfl, ?_, fun _ => ?_⟩)) (e := lotD (l.filter fun z => !decide (z ∈ ns))) rfl) e1.bh fun v2 B2 H2 e2 h2 => ?_
  · exact Dt.eq (Dt.not (Dt.test (K := K) (De.op (r := rInT K false) (.var hx rfl) (.var (Mo.mo (e1.bb.trans s) hv1) rfl) (Rv.inT (shaped_str (nl z hz)) (shaped_lot nn))))) (by rw [any_strs])
  · exact .var hx rfl
  have e12 := e1.trans e2
  have nf : ∀ z ∈ l.filter (fun z => !decide (z ∈ ns)), Nm z := fun z hz => nl z (List.mem_filter.mp hz).1
  have ff : (l.filter (fun z => !decide (z ∈ ns))).length ≤ 4 := Nat.le_trans (List.length_filter_le _ _) few
  exact s_ret (De.and2 (De.reprs (K := K) (De.call (l, ns) (.cons (.var (Mo.mo e12.bb hv) rfl) (.one (.var (Mo.mo e12.bb hv1) rfl))) ⟨few, nl, nn⟩) (.var h2 rfl) (tb_lot nf ff).shw) (De.same (De.callK (l, ns) (.cons (.var (Mo.mo e12.bb hv1) rfl) (.one (.var (Mo.mo e12.bb hv) rfl))) rfl (fun _ _ => kw2) ⟨few, nl, nn⟩) (.var h2 rfl) (shaped_lot nf))) e2.bh fun v B H e h => k v B H (e12.trans e) h
end
end K04

set_option Elab.async false
set_option linter.all false
set_option maxRecDepth 100000
set_option maxHeartbeats 4000000
/-! K04g: what the law asks of sheets. -/
namespace K04
open PySem PySem.Spec PyProof.Rows L2 Wb Wv Fm
def SheetOk (qs : Qs) (lot : List Str) (truth : List Int) : Prop := Small qs ∧ (∀ z ∈ names qs, Nm z) ∧ lot = (names qs).filter (fun z => decide (z ∈ lot)) ∧ truth ∈ grow (qs.map fun q => rng 0 q.2)
abbrev sp_sheetsR (K : PySem.W.Frag) (C : Addr) : Sp := Pf (α := Qs × List Str × List Int) (fun a => [formR K C a.1, dat K (qsD a.1), dat K (lotD a.2.1), dat K (rowD a.2.2)]) (fun a => SheetOk a.1 a.2.1 a.2.2) (fun _ => dat K (.bool true))
theorem range_get {α : Type} {f : Int → α} {l : List Int} {n : Nat} (h : l.length = n) : ((List.range n).map fun i => f (l.getD i 0)) = l.map f := by
  subst h
  refine List.ext_getElem? fun i => ?_
  rw [List.getElem?_map, List.getElem?_map]
  by_cases lt : i < l.length
  · rw [List.getElem?_range lt, List.getElem?_eq_getElem lt]
    simp [List.getD_eq_getElem?_getD, lt]
  · rw [List.getElem?_eq_none (by simpa using lt), List.getElem?_eq_none (by simpa using lt)]
    rfl
theorem names_at {qs : Qs} {i : Nat} {q : Str × Nat} (h : qs[i]? = some q) : (names qs)[i]? = some q.1 := by
  unfold names
  rw [List.getElem?_map, h]
  rfl
theorem getD_at {l : List Int} {i : Nat} {x : Int} (h : l[i]? = some x) : l.getD i 0 = x := by rw [List.getD_eq_getElem?_getD, h]; rfl
theorem at_getD {l : List Int} {i : Nat} (h : i < l.length) : l[i]? = some (l.getD i 0) := by rw [List.getD_eq_getElem?_getD, List.getElem?_eq_getElem h]; rfl
theorem shaped_rowsL (rs : List (List Int)) : SeqAt.shaped (rowsL rs) = true := by
  unfold SeqAt.shaped rowsL
  rw [Bool.and_eq_true]
  refine ⟨by simp only [PyData.canLay0]; exact lay_rows rs, decide_eq_true ?_⟩
  have := depth_rows rs
  simp only [PyData.depth]
  omega
theorem any_rows {rs : List (List Int)} {r : List Int} (h : r ∈ rs) : ((rs.map rowD).any fun z => PyData.eqv z (rowD r)) = true := by
  rw [List.any_eq_true]
  exact ⟨rowD r, List.mem_map.mpr ⟨r, h, rfl⟩, eqv_shaped (shaped_row r)⟩
section
variable {P : Program} {w : World} {K : PySem.W.Frag} {mg : Str → Option Value} {base : Heap} {C_Form C_NoName C_BlankError : Addr}
theorem sc_sheetsR : FnScope ["form", "questions", "lot", "truth", "names", "name", "many", "due", "at", "sheet", "behind", "row"] ["form", "questions", "lot", "truth"] (defScope s_sheetsR) := ⟨rfl, rfl, rfl, by decide +kernel, rfl, by decide +kernel, by decide +kernel⟩
theorem ok_sheetsR (D : Def K mg "_law_sheets_right" s_sheetsR ["form", "questions", "lot", "truth"]) (n_range : mg "range" = none) (n_len : mg "len" = none) (n_tuple : mg "tuple" = none) (C_sheetOf : Cal P w K mg base CX0 2 "sheet_of" s_sheetOf ["form", "lot", "truth"] (spSheetOf K C_Form)) (n_repr : mg "repr" = none) (C_lotOf : Cal P w K mg base CX0 2 "lot_of" s_lotOf ["form", "sheet"] (spLotOf K C_Form)) (C_lrows : Cal P w K mg base CX0 1 "_law_rows" s_lrows ["questions", "least"] (sp_lrows K)) (C_truthsBehind : Cal P w K mg base CX0 1 "truths_behind" s_truthsBehind ["form", "sheet"] (spBehind K C_Form)) : CalG P w K mg base CX0 3 "_law_sheets_right" s_sheetsR ["form", "questions", "lot", "truth"] (sp_sheetsR K C_Form) := by
  refine D.okG sc_sheetsR (fun vs H Q E h => ?_) (fun cdv f A outer s H vs Q E gd hr h => ?_)
  · exact pf_len h fun _ => rfl
  replace h := pf4 h
  obtain ⟨v0, v1, v2, v3, B, ⟨qs, lot, truth⟩, rfl, hB, hf, hq, hl, ht, ⟨sm, nm, hlot, htr⟩, k⟩ := h
  refine ⟨_, (pss_cons (ps_set (i := 4) sc_sheetsR.nd rfl (Or.inr rfl) (pe_lc (own := [("name", 5), ("many", 6)]) (g := gTup K 2 (gCons (gName 5) (gCons (gName 6) gNil))) (tt := tYes) rfl sc_sheetsR.nd (pi_tup (pv 1)) (blkOk_by (own := [("name", 5), ("many", 6)]) (N := ["form", "questions", "lot", "truth", "names", "name", "many", "due", "at", "sheet", "behind", "row"]) (sc := defScope s_sheetsR) (by decide +kernel)) (fun _ _ _ _ _ => (pg_tup rfl (pgs_cons (pg_name (i := 5) sc_sheetsR.nd rfl (Or.inl rfl)) (pgs_cons (pg_name (i := 6) sc_sheetsR.nd rfl (Or.inl rfl)) pgs_nil)))) (fun _ _ _ _ _ => pts_nil) (fun _ _ _ _ _ => (pv 5))))
    (pss_cons (ps_set (i := 7) sc_sheetsR.nd rfl (Or.inr rfl) (pe_callTy call_tuple_of (by rfl) n_tuple (by decide +kernel) (pa_cons (pe_lc (own := [("at", 8)]) (g := gName 8) (tt := tYes) rfl sc_sheetsR.nd (pi_range1 rfl n_range (pa_cons (pe_callB call_len (by rfl) n_len (by decide +kernel) (pa_cons (pv 4) pa_nil)) pa_nil)) (blkOk_by (own := [("at", 8)]) (N := ["form", "questions", "lot", "truth", "names", "name", "many", "due", "at", "sheet", "behind", "row"]) (sc := defScope s_sheetsR) (by decide +kernel)) (fun _ _ _ _ _ => (pg_name (i := 8) sc_sheetsR.nd rfl (Or.inl rfl))) (fun _ _ _ _ _ => pts_nil) (fun _ _ _ _ _ => (pe_ifExp (pt_cmpR (r := rInT K false) (op_inT hr.u65) (pe_ix (r := rIxL K) ix_list (pv 4) (pv 8) (fun _ _ => rfl)) (pv 2) rfl) (pe_op op_sub pe_int pe_int) (pe_ix (r := rIxT K) ix_tup (pv 3) (pv 8) (fun _ _ => rfl))))) pa_nil)))
    (pss_cons (ps_set (i := 9) sc_sheetsR.nd rfl (Or.inl rfl) (pe_cal C_sheetOf (hr.mono (by decide)) (by rfl) pass0 (pa_cons (pv 0) (pa_cons (pv 2) (pa_cons (pv 3) pa_nil)))))
    (pss_cons (ps_if (PW.pt (pw_or (pt_cmpR op_ne (pe_callB (call_show gd hr.units) (by rfl) n_repr (by decide +kernel) (pa_cons (pv 9) pa_nil)) (pe_callB (call_show gd hr.units) (by rfl) n_repr (by decide +kernel) (pa_cons (pv 7) pa_nil)) (nomark _)) (pw_or (pt_cmpR (op_neD hr.units) (pe_calK C_sheetOf (hr.mono (by decide)) (by rfl) pass0 kw_sheetOf (pk_cons (pv 3) (pk_cons (pv 2) (pk_cons (pv 0) pk_nil)))) (pv 7) (nomark _)) (pw_or1 (pt_cmpR op_ne (pe_callB (call_show gd hr.units) (by rfl) n_repr (by decide +kernel) (pa_cons (pe_cal C_lotOf (hr.mono (by decide)) (by rfl) pass0 (pa_cons (pv 0) (pa_cons (pv 9) pa_nil))) pa_nil)) (pe_callB (call_show gd hr.units) (by rfl) n_repr (by decide +kernel) (pa_cons (pv 2) pa_nil)) (nomark _)))))) (pss_one (ps_ret pe_bl)) pss_nil)
    (pss_cons (ps_setLc (i := 10) (own := [("row", 11)]) (g := gName 11) rfl sc_sheetsR.nd rfl rfl (sw_true rfl rfl rfl (by decide +kernel)) (pi_list (pe_cal C_lrows (hr.mono (by decide)) (by rfl) pass0 (pa_cons (pv 1) (pa_cons pe_int pa_nil)))) (blkOk_by (own := [("row", 11)]) (N := ["form", "questions", "lot", "truth", "names", "name", "many", "due", "at", "sheet", "behind", "row"]) (sc := defScope s_sheetsR) (by decide +kernel)) (fun _ _ _ _ _ => (pg_name (i := 11) sc_sheetsR.nd rfl (Or.inr rfl))) (fun _ _ _ _ _ => pts_one (pt_cmpR (r := rEqD K) (op_eqD hr.units) (pe_lc (own := [("at", 8)]) (g := gName 8) rfl sc_sheetsR.nd (pi_range1 rfl n_range (pa_cons (pe_callB (id := "len") (r := rLen K) call_len (by rfl) n_len (by decide +kernel) (pa_cons (pv 11) pa_nil)) pa_nil)) (by exact blkOk_by (own := [("at", 8)]) (N := ["form", "questions", "lot", "truth", "names", "name", "many", "due", "at", "sheet", "behind", "row"]) (sc := ⟨.function, [(".0", .local), ("row", .cell), ("range", .globalImplicit), ("len", .globalImplicit), ("due", .cell)], false, false, []⟩) (by decide +kernel)) (fun _ _ _ _ _ => (pg_name (i := 8) sc_sheetsR.nd rfl (Or.inl rfl))) (fun _ _ _ _ _ => pts_one (PW.pt (pw_and (pt_cmpR op_ne (pe_ix (r := rIxT K) ix_tup (pv 7) (pv 8) (fun _ _ => rfl)) (pe_op op_sub pe_int pe_int) (nomark _)) (pw_and1 (pt_cmpR op_ne (pe_ix (r := rIxT K) ix_tup (pv 7) (pv 8) (fun _ _ => rfl)) (pe_ix (r := rIxT K) ix_tup (pv 11) (pv 8) (fun _ _ => rfl)) (nomark _)))))) (fun _ _ _ _ _ => (pv 8))) (pe_lst pa_nil) (nomark _))) (fun _ _ _ _ _ => (pv 11)))
    (pss_cons (ps_if (PW.pt (pw_or (pt_cmpR op_ne (pe_callB (call_show gd hr.units) (by rfl) n_repr (by decide +kernel) (pa_cons (pe_cal C_truthsBehind (hr.mono (by decide)) (by rfl) pass0 (pa_cons (pv 0) (pa_cons (pv 7) pa_nil))) pa_nil)) (pe_callB (call_show gd hr.units) (by rfl) n_repr (by decide +kernel) (pa_cons (pe_callTy call_tuple_of (by rfl) n_tuple (by decide +kernel) (pa_cons (pv 10) pa_nil)) pa_nil)) (nomark _)) (pw_or1 (pt_cmpR (op_neD hr.units) (pe_calK C_truthsBehind (hr.mono (by decide)) (by rfl) pass0 kw_truthsBehind (pk_cons (pv 7) (pk_cons (pv 0) pk_nil))) (pe_callTy call_tuple_of (by rfl) n_tuple (by decide +kernel) (pa_cons (pv 10) pa_nil)) (nomark _))))) (pss_one (ps_ret pe_bl)) pss_nil)
    (pss_one (ps_ret (pe_and (pe_cmpR (op_eqD hr.units) (pe_calK C_lotOf (hr.mono (by decide)) (by rfl) pass0 kw_lotOf (pk_cons (pv 7) (pk_cons (pv 0) pk_nil))) (pv 2) (nomark _)) (pe_and (pe_cmpR (op_inD hr.u65) (pv 3) (pv 10) rfl) (pe_one (pe_cmpR op_eq (pe_callB (call_show gd hr.units) (by rfl) n_repr (by decide +kernel) (pa_cons (pe_cal C_lotOf (hr.mono (by decide)) (by rfl) pass0 (pa_cons (pv 0) (pa_cons (pv 3) pa_nil))) pa_nil)) pe_str (nomark _))))))))))))), ?_⟩
  have hf : formR K C_Form qs B v0 := hf
  have hq : dat K (qsD qs) B v1 := hq
  have hl : dat K (lotD lot) B v2 := hl
  have ht : dat K (rowD truth) B v3 := ht
  have sm : Small qs := sm
  have nm : ∀ z ∈ names qs, Nm z := nm
  have hlot : lot = (names qs).filter (fun z => decide (z ∈ lot)) := hlot
  have htr : truth ∈ grow (qs.map fun q => rng 0 q.2) := htr
  have few : qs.length ≤ 4 := sm.1
  have line := sizeLine_eq
  have ln : (names qs).length = qs.length := by unfold names; rw [List.length_map]
  have lt : truth.length = qs.length := by rw [grow_row htr, List.length_map]
  have nl : ∀ z ∈ lot, Nm z := fun z hz => by
    rw [hlot] at hz
    exact nm z (List.mem_filter.mp hz).1
  have fl : lot.length ≤ 4 := by
    rw [hlot]
    exact Nat.le_trans (List.length_filter_le _ _) (by omega)
  have tok : ∀ (i : Nat) (q : Str × Nat) (x : Int), qs[i]? = some q → truth[i]? = some x → 0 ≤ x ∧ x < q.2 := fun i q x h1 h2 => by
    obtain ⟨v, hv, hm⟩ := picks_at (l := rng 0 q.2) (i := i) (grow_picks _ _ htr) (by rw [List.getElem?_map, h1]; rfl)
    rw [h2] at hv
    cases hv
    exact rng_mem.mp hm
  have tnn : ∀ x ∈ truth, 0 ≤ x ∧ x ≤ 4 := fun x hx => by
    obtain ⟨i, hi, rfl⟩ := List.mem_iff_getElem.mp hx
    have := tok i qs[i] truth[i] (List.getElem?_eq_getElem (by omega)) (List.getElem?_eq_getElem hi)
    have := sm.2 qs[i] (List.getElem_mem _)
    omega
  have dl : (sheetL (names qs) lot truth).length = qs.length := by rw [sheet_len _ _ _ (by omega), lt]
  have dok : ∀ (i : Nat) (q : Str × Nat) (x : Int), qs[i]? = some q → (sheetL (names qs) lot truth)[i]? = some x → x = -1 ∨ (0 ≤ x ∧ x < q.2) := fun i q x h1 h2 => by
    obtain ⟨t, ht⟩ : ∃ t, truth[i]? = some t := ⟨_, List.getElem?_eq_getElem (by have := (List.getElem?_eq_some_iff.mp h1).1; omega)⟩
    rw [sheet_at (names_at h1) ht] at h2
    cases h2
    by_cases c : q.1 ∈ lot
    · exact .inl (if_pos c)
    · rw [if_neg c]
      exact .inr (tok i q t h1 ht)
  have ls : lotL (names qs) (sheetL (names qs) lot truth) = lot := by
    rw [lot_sheet _ _ _ (by omega) fun x hx => (tnn x hx).1]
    exact hlot.symm
  have bf := behind_fits (qs := qs) (due := sheetL (names qs) lot truth) dl.symm dok
  have own := fits_own (ns := names qs) (lot := lot) (truth := truth) (by omega)
  have shD : Shw (rowD (sheetL (names qs) lot truth)) := (tb_row (by omega) fun i hi => by
    obtain ⟨j, hj, rfl⟩ := List.mem_iff_getElem.mp hi
    have := dok j qs[j] _ (List.getElem?_eq_getElem (by omega)) (List.getElem?_eq_getElem hj)
    have := sm.2 qs[j] (List.getElem_mem _)
    omega).shw
  refine s_set (De.eq (De.lcA (K := K) (as := qs) (r := fun q => dat K (encQ q)) (Di.tupM (.var hq rfl)) (fun q => .str q.1) (by omega) fun q x Bn Hn _ _ sh hx => ?_) (e := .list ((names qs).map .str)) ?_) hB fun v4 B1 H1 e1 h4 => ?_
  · obtain ⟨y, z, hy, hz, go⟩ := gTup2 sh (dat_pair hx)
    exact ⟨_, fun Q q => go Q q, rfl, .var hy rfl⟩
  · unfold names
    rw [List.map_map]
    rfl
  refine s_set (De.eq (De.tupleL (K := K) (De.lcA (as := List.range ((names qs).map PyData.str).length) (r := fun i : Nat => dat K (.int (i : Int))) (Di.rng (De.lenL (.var h4 rfl)) (by rw [List.length_map]; omega)) (fun i => .int ((sheetL (names qs) lot truth).getD i 0)) (by rw [List.length_range, List.length_map]; omega) fun i x Bn Hn hi s _ hx => ⟨_, fun Q q => q, rfl, ?_⟩)) (e := rowD (sheetL (names qs) lot truth)) ?_) e1.bh fun v7 B2 H2 e2 h7 => ?_
  · have hi := List.mem_range.mp hi
    rw [List.length_map, ln] at hi
    have hx := dat_int hx
    subst hx
    have hqi : qs[i]? = some qs[i] := List.getElem?_eq_getElem hi
    have hti := at_getD (l := truth) (i := i) (by omega)
    have hsi := sheet_at (lot := lot) (names_at hqi) hti
    have hn := nm qs[i].1 (List.mem_of_getElem? (names_at hqi))
    refine De.eq (De.iteD (K := K) (b := decide (qs[i].1 ∈ lot)) (Dt.eq (Dt.test (K := K) (De.op (r := rInT K false) (De.op (r := rIxL K) (.var (Mo.mo s h4) rfl) (.var (Dp.int _) rfl) (Rv.ixLD (d := .str qs[i].1) (atI_nat (by rw [List.getElem?_map, names_at hqi]; rfl)))) (.var (Mo.mo (e1.bb.trans s) hl) rfl) (Rv.inT (shaped_str hn) (shaped_lot nl)))) (by rw [any_strs])) (fun _ => De.op (r := rI0 fun i j => V.int (i - j)) .int .int Rv.I0) (fun _ => De.op (r := rIxT K) (.var (Mo.mo (e1.bb.trans s) ht) rfl) (.var (Dp.int _) rfl) (Rv.ixTD (d := .int (truth.getD i 0)) (atI_nat (by rw [List.getElem?_map, hti]; rfl))))) ?_
    rw [getD_at hsi]
    by_cases c : qs[i].1 ∈ lot
    · simp [c]
    · simp [c]
  · unfold rowD
    rw [range_get (f := PyData.int) (by rw [List.length_map, ln, dl])]
  have e12 := e1.trans e2
  refine s_set (De.call (qs, lot, truth) (.cons (.var (Mo.mo e12.bb hf) rfl) (.cons (.var (Mo.mo e12.bb hl) rfl) (.one (.var (Mo.mo e12.bb ht) rfl)))) ⟨sm, nm, nl⟩) e2.bh fun v9 B3 H3 e3 h9 => ?_
  have h9 : dat K (rowD (sheetL (names qs) lot truth)) B3 v9 := h9
  have e13 := e12.trans e3
  have h7' := Mo.mo e3.bb h7
  refine s_skip (Dt.or2 (Dt.reprs (K := K) (.var h9 rfl) (.var h7' rfl) shD) (Dt.or2 (Dt.same (K := K) (De.callK (qs, lot, truth) (.cons (.var (Mo.mo e13.bb ht) rfl) (.cons (.var (Mo.mo e13.bb hl) rfl) (.cons (.var (Mo.mo e13.bb hf) rfl) .nil))) rfl (fun _ _ => kw3) ⟨sm, nm, nl⟩) (.var h7' rfl) (shaped_row _)) (Dt.reprs (K := K) (De.eq (De.call (qs, sheetL (names qs) lot truth) (.cons (.var (Mo.mo e13.bb hf) rfl) (.one (.var h9 rfl))) sm) (by rw [ls])) (.var (Mo.mo e13.bb hl) rfl) (tb_lot nl fl).shw))) e3.bh fun B4 H4 e4 => ?_
  have e14 := e13.trans e4
  have h7 : dat K (rowD (sheetL (names qs) lot truth)) B4 v7 := Mo.mo e4.bb h7'
  have lr : (qs.map fun q => rng 0 ((q.2 : Int) - 0).toNat) = qs.map fun q => rng 0 q.2 := List.map_congr_left fun q _ => by simp
  have cnt : (grow (qs.map fun q => rng 0 q.2)).length ≤ 4 ^ 4 := by
    refine Nat.le_trans (grow_len (m := 4) _ fun l hl => ?_) (Nat.pow_le_pow_right (by decide) (by rw [List.length_map]; exact few))
    obtain ⟨q, hq, rfl⟩ := List.mem_map.mp hl
    rw [rng_len]
    exact sm.2 q hq
  have lay : ∀ r ∈ grow (qs.map fun q => rng 0 q.2), r.length = qs.length := fun r hr => by rw [grow_row hr, List.length_map]
  generalize sheetL (names qs) lot truth = due at *
  refine s_set (De.eq (De.lcD (K := K) (as := grow (qs.map fun q => rng 0 q.2)) (r := fun r => dat K (rowD r)) (Di.listM (f := rowD) (De.eq (De.call (qs, (0 : Int)) (.cons (.var (Mo.mo e14.bb hq) rfl) (.one .int)) ⟨sm, (show (-1 : Int) ≤ 0 by decide), (show (0 : Int) ≤ 0 by decide)⟩) (by show rowsL (grow (qs.map fun q => rng 0 ((q.2 : Int) - 0).toNat)) = _; rw [lr]; rfl))) (fun r => fits due r) (fun r => rowD r) (by omega) fun r x Bn Hn hr s _ hx => ⟨[some v0, some v1, some v2, some v3, some v4, none, none, some v7, none, some v9, none, some x], fun Q q => q, rfl, ?_, fun _ => ?_⟩) (e := rowsL (behindL qs due)) (by rw [bf]; rfl)) e4.bh fun v10 B5 H5 e5 h10 => ?_
  rotate_left
  · exact .var hx rfl
  rotate_left
  · have lr := lay r hr
    refine Dt.eq (Dt.test (K := K) (De.op (r := rEqD K) (R := dat K (.list (((bad due r).map fun i : Nat => (i : Int)).map .int))) (S := dat K (.list [])) ?_ (De.lstD .nil (by show 0 ≤ sizeLine; decide)) (Rv.eqD (ints_shaped _) rfl))) ?_
    · refine De.eq (De.lcD (K := K) (as := List.range (r.map PyData.int).length) (r := fun i : Nat => dat K (.int (i : Int))) (Di.rng (De.lenT (.var hx rfl)) (by rw [List.length_map]; omega)) (fun i => !decide (due.getD i 0 = -1) && !decide (due.getD i 0 = r.getD i 0)) (fun i => .int (i : Int)) (by rw [List.length_range, List.length_map]; omega) fun i y Bm Hm hi s2 _ hy => ⟨[some v0, some v1, some v2, some v3, some v4, none, none, some v7, some y, some v9, none, some x], fun Q q => q, rfl, ?_, fun _ => .var hy rfl⟩) ?_
      · have hi := List.mem_range.mp hi
        rw [List.length_map] at hi
        have hy := dat_int hy
        subst hy
        have h7 := Mo.mo (s.trans s2) h7
        have hx := Mo.mo s2 hx
        have ixd : Rv (rIxT K) Bm (dat K (rowD due)) (dat K (.int (i : Int))) (dat K (.int (due.getD i 0))) := Rv.ixTD (atI_nat (by rw [List.getElem?_map, at_getD (by omega)]; rfl))
        have ixr : Rv (rIxT K) Bm (dat K (rowD r)) (dat K (.int (i : Int))) (dat K (.int (r.getD i 0))) := Rv.ixTD (atI_nat (by rw [List.getElem?_map, at_getD hi]; rfl))
        refine Dt.eq (Dt.and (Dt.test (K := K) (De.op (r := rNe) (De.op (r := rIxT K) (.var h7 rfl) (.var (Dp.int _) rfl) ixd) (De.op (r := rI0 fun i j => V.int (i - j)) .int .int Rv.I0) Rv.neI)) fun _ => Dt.test (K := K) (De.op (r := rNe) (De.op (r := rIxT K) (.var h7 rfl) (.var (Dp.int _) rfl) ixd) (De.op (r := rIxT K) (.var hx rfl) (.var (Dp.int _) rfl) ixr) Rv.neI)) ?_
        rfl
      · unfold bad
        rw [List.length_map, List.map_map]
        rfl
    · rw [ints_eqv]
      unfold fits
      rw [List.isEmpty_map]
  have e15 := e14.trans e5
  have h7 := Mo.mo e5.bb h7
  have shB : Shw (rowsT (behindL qs due)) := by
    rw [bf]
    refine (tb_rows (fun r hr => ?_) (Nat.le_trans (List.length_filter_le _ _) (Nat.le_trans cnt (by decide)))).shw
    have hr := (List.mem_filter.mp hr).1
    refine ⟨by rw [lay r hr]; exact few, fun x hx => ?_⟩
    obtain ⟨j, hj, rfl⟩ := List.mem_iff_getElem.mp hx
    have lj := lay r hr
    obtain ⟨v, hv, hm⟩ := picks_at (l := rng 0 (qs[j]'(by omega)).2) (i := j) (grow_picks _ _ hr) (by rw [List.getElem?_map, List.getElem?_eq_getElem (by omega)]; rfl)
    rw [List.getElem?_eq_getElem hj] at hv
    cases hv
    have := rng_mem.mp hm
    have := sm.2 (qs[j]'(by omega)) (List.getElem_mem _)
    omega
  refine s_skip (Dt.or2 (Dt.reprs (K := K) (De.call (qs, due) (.cons (.var (Mo.mo e15.bb hf) rfl) (.one (.var h7 rfl))) sm) (De.tupleL (.var h10 rfl)) shB) (Dt.same (K := K) (De.callK (qs, due) (.cons (.var h7 rfl) (.cons (.var (Mo.mo e15.bb hf) rfl) .nil)) rfl (fun _ _ => kw2) sm) (De.tupleL (.var h10 rfl)) (shaped_rows _))) e5.bh fun B6 H6 e6 => ?_
  have e16 := e15.trans e6
  have inn : truth ∈ behindL qs due := by
    rw [bf]
    exact List.mem_filter.mpr ⟨htr, own⟩
  refine s_ret (De.and2 (De.same (K := K) (De.eq (De.callK (qs, due) (.cons (.var (Mo.mo e6.bb h7) rfl) (.cons (.var (Mo.mo e16.bb hf) rfl) .nil)) rfl (fun _ _ => kw2) sm) (by rw [ls])) (.var (Mo.mo e16.bb hl) rfl) (shaped_lot nl)) (De.and2 (De.eq (De.op (r := rInD K) (.var (Mo.mo e16.bb ht) rfl) (.var (Mo.mo e6.bb h10) rfl) (Rv.inL (shaped_row _) (shaped_rowsL _))) (by rw [any_rows inn])) (De.eq (De.op (r := rEq) (De.show (De.eq (De.call (qs, truth) (.cons (.var (Mo.mo e16.bb hf) rfl) (.one (.var (Mo.mo e16.bb ht) rfl))) sm) (e := lotD []) (by rw [lot_truth _ _ fun x hx => (tnn x hx).1])) (tb_lot (l := []) (by simp) (Nat.zero_le _)).shw) .str Rv.eqS) ?_))) e6.bh fun v B H e h => k v B H (e16.trans e) h
  have : (lotD []).shown = Str.ofString "()" := by decide +kernel
  rw [this]
  simp
end
end K04

set_option Elab.async false
set_option linter.all false
set_option maxRecDepth 100000
set_option maxHeartbeats 4000000
/-! K04h: where names stand, what is told of others. -/
namespace K04
open PySem PySem.Spec PyProof.Rows L2 Wb Wv Fm
theorem eqv_str (a b : Str) : PyData.eqv (.str a) (.str b) = decide (a = b) := by
  have := any_strs [a] b
  simp only [List.map_cons, List.map_nil, List.any_cons, List.any_nil, Bool.or_false, List.mem_singleton] at this
  rw [this]
  by_cases h : a = b
  · simp [h]
  · have : ¬ b = a := fun e => h e.symm
    simp [h, this]
theorem place_own {ns : List Str} {i : Nat} {z : Str} (nd : ns.Nodup) (h : ns[i]? = some z) : placeD ns (.str z) = some i := by
  unfold placeD
  obtain ⟨lt, e⟩ := List.getElem?_eq_some_iff.mp h
  rw [List.findIdx?_eq_some_iff_getElem]
  refine ⟨lt, by rw [eqv_str, e]; simp, fun j hj => ?_⟩
  rw [eqv_str]
  have : ns[j] ≠ z := fun q => by
    have := (List.getElem_inj nd).mp (q.trans e.symm)
    omega
  simp [this]
theorem place_some {ns : List Str} {nd : PyData} {i : Nat} (h : placeD ns nd = some i) : ∃ z, ns[i]? = some z ∧ PyData.eqv (.str z) nd = true ∧ (∀ (m : Nat) (y : Str), m < i → ns[m]? = some y → PyData.eqv (.str y) nd = false) ∧ ((ns.map PyData.str).any fun d => PyData.eqv d nd) = true := by
  unfold placeD at h
  obtain ⟨lt, e, no⟩ := List.findIdx?_eq_some_iff_getElem.mp h
  refine ⟨ns[i], List.getElem?_eq_getElem lt, e, fun m y hm hy => ?_, ?_⟩
  · have := no m hm
    obtain ⟨lm, ey⟩ := List.getElem?_eq_some_iff.mp hy
    rw [ey] at this
    simpa using this
  · rw [List.any_eq_true]
    exact ⟨.str ns[i], List.mem_map.mpr ⟨_, List.getElem_mem lt, rfl⟩, e⟩
theorem place_none {ns : List Str} {nd : PyData} (h : placeD ns nd = none) : ((ns.map PyData.str).any fun d => PyData.eqv d nd) = false := by
  unfold placeD at h
  rw [List.findIdx?_eq_none_iff] at h
  rw [List.any_map, List.any_eq_false]
  intro z hz
  simp only [Function.comp]
  rw [h z hz]
  decide
section
variable {K : PySem.W.Frag} {σ : L2.St} {B : Hp} {ta tb : TE} {C CN : Addr} {qs : Qs} {nd : PyData} {i : Nat} {E : XK}
theorem De.place (ha : De ta σ B (formR K C qs)) (hb : De tb σ B (dat K nd)) (sm : Small qs) (nm : ∀ z ∈ names qs, Nm z) (sd : SeqAt.shaped nd = true) (hi : placeD (names qs) nd = some i) :
    De (tCall (fun vs H Q _ => spPlace K C CN vs H Q fun _ _ _ => False) [] E (tCons ta (tCons tb tNil))) σ B (dat K (.int (i : Int))) := fun B1 H s1 s2 Q q =>
  (Da.cons ha (Da.cons hb Da.nil)) B1 H s1 s2 _ fun vs B2 H2 e hvs => by
    obtain ⟨x, r, rfl, hx, y, r', rfl, hy, hr⟩ := hvs
    have hr : r' = [] := hr
    subst hr
    exact ⟨x, y, B2, qs, nd, rfl, e.bh, hx, hy, sm, nm, sd, fun j hj B' H' e' => by rw [hi] at hj; cases hj; exact q _ B' H' (e.trans e') (Dp.int _), fun h => by rw [hi] at h; cases h⟩
theorem De.placeK (ha : De ta σ B (formR K C qs)) (hb : De tb σ B (dat K nd)) (sm : Small qs) (nm : ∀ z ∈ names qs, Nm z) (sd : SeqAt.shaped nd = true) (hi : placeD (names qs) nd = some i) :
    De (tCalK (fun vs H Q _ => spPlace K C CN vs H Q fun _ _ _ => False) [1, 0] 2 E (tCons tb (tCons ta tNil))) σ B (dat K (.int (i : Int))) := fun B1 H s1 s2 Q q =>
  (Da.cons hb (Da.cons ha Da.nil)) B1 H s1 s2 _ fun vs B2 H2 e hvs => by
    obtain ⟨y, r, rfl, hy, x, r', rfl, hx, hr⟩ := hvs
    have hr : r' = [] := hr
    subst hr
    exact ⟨rfl, x, y, B2, qs, nd, rfl, e.bh, hx, hy, sm, nm, sd, fun j hj B' H' e' => by rw [hi] at hj; cases hj; exact q _ B' H' (e.trans e') (Dp.int _), fun h => by rw [hi] at h; cases h⟩
theorem De.answers {a : Str × Nat} (ha : De ta σ B (formR K C qs)) (hb : De tb σ B (dat K nd)) (sm : Small qs) (nm : ∀ z ∈ names qs, Nm z) (sd : SeqAt.shaped nd = true) (hi : placeD (names qs) nd = some i) (hq : qs[i]? = some a) :
    De (tCall (fun vs H Q _ => spAnswers K C CN vs H Q fun _ _ _ => False) [] E (tCons ta (tCons tb tNil))) σ B (dat K (.int (a.2 : Int))) := fun B1 H s1 s2 Q q =>
  (Da.cons ha (Da.cons hb Da.nil)) B1 H s1 s2 _ fun vs B2 H2 e hvs => by
    obtain ⟨x, r, rfl, hx, y, r', rfl, hy, hr⟩ := hvs
    have hr : r' = [] := hr
    subst hr
    exact ⟨x, y, B2, qs, nd, rfl, e.bh, hx, hy, sm, nm, sd, fun j b hj hb B' H' e' => by rw [hi] at hj; cases hj; rw [hq] at hb; cases hb; exact q _ B' H' (e.trans e') (Dp.int _), fun h => by rw [hi] at h; cases h⟩
theorem De.answersK {a : Str × Nat} (ha : De ta σ B (formR K C qs)) (hb : De tb σ B (dat K nd)) (sm : Small qs) (nm : ∀ z ∈ names qs, Nm z) (sd : SeqAt.shaped nd = true) (hi : placeD (names qs) nd = some i) (hq : qs[i]? = some a) :
    De (tCalK (fun vs H Q _ => spAnswers K C CN vs H Q fun _ _ _ => False) [1, 0] 2 E (tCons tb (tCons ta tNil))) σ B (dat K (.int (a.2 : Int))) := fun B1 H s1 s2 Q q =>
  (Da.cons hb (Da.cons ha Da.nil)) B1 H s1 s2 _ fun vs B2 H2 e hvs => by
    obtain ⟨y, r, rfl, hy, x, r', rfl, hx, hr⟩ := hvs
    have hr : r' = [] := hr
    subst hr
    exact ⟨rfl, x, y, B2, qs, nd, rfl, e.bh, hx, hy, sm, nm, sd, fun j b hj hb B' H' e' => by rw [hi] at hj; cases hj; rw [hq] at hb; cases hb; exact q _ B' H' (e.trans e') (Dp.int _), fun h => by rw [hi] at h; cases h⟩
theorem De.index {ns : List Str} (ha : De ta σ B (dat K (.list (ns.map .str)))) (hb : De tb σ B (dat K nd)) (nm : ∀ z ∈ ns, Nm z) (sd : SeqAt.shaped nd = true) (hi : placeD ns nd = some i) :
    De (tBM K "list" (rIndexD K) ta (tCons tb tNil)) σ B (dat K (.int (i : Int))) := fun B1 H s1 s2 Q q => ha B1 H s1 s2 _ fun x B2 H2 e hx => by
  obtain ⟨a, xs, rfl, hs, hR⟩ := dat_lstR hx
  refine ⟨.inl ⟨rfl, xs, e.bh.seq hs⟩, hb B2 H2 (s1.trans e.bb) e.bh _ fun y B3 H3 e3 hy => ?_⟩
  obtain ⟨z, hz, ev, no, _⟩ := place_some hi
  refine ⟨a, y, nd, ns.map .str, i, .str z, rfl, rfl, dpMono (e3.bb.trans e3.bh) _ _ hx, dpMono e3.bh _ _ hy, shaped_strsL nm, sd, by rw [List.getElem?_map, hz]; rfl, ev, fun m z' hm hz' => ?_, q _ B3 H3 (e.trans e3) (Dp.int _)⟩
  rw [List.getElem?_map] at hz'
  obtain ⟨w, hw, rfl⟩ := Option.map_eq_some_iff.mp hz'
  exact no m w hm hw
end
theorem r_da {ta : TA} {σ : L2.St} {B H : Hp} {Rs : List Rel} {Q : List V → Hp → Prop} (h : Da ta σ B Rs) (hB : Same B H) (k : ∀ vs B' H', Ext B H B' H' → AllR Rs B' vs → Q vs H') : ta σ H Q := h B H (Same.refl _) hB _ k
structure NdOk (nd : PyData) : Prop where
  sd : SeqAt.shaped nd = true
  tb : Tb 1 40 nd
theorem tb_told {qs : Qs} {nd : PyData} {way : Int} (sm : Small qs) (h : NdOk nd) : Tb 2 60 (toldD qs nd way) := by
  have small : ∀ i : Nat, i ≤ 100 → Tb 0 0 (.int (i : Int)) := fun i hi => tb_int (Nat.lt_of_le_of_lt (show ((i : Int)).natAbs ≤ 100 by omega) (Nat.lt_of_lt_of_le (show 100 < 2 ^ 7 by decide) (Nat.pow_le_pow_right (by decide) (by decide))))
  unfold toldD
  cases hp : placeD (names qs) nd with
  | some i =>
    obtain ⟨z, hz, _⟩ := place_some hp
    have lt := (List.getElem?_eq_some_iff.mp hz).1
    unfold names at lt
    rw [List.length_map] at lt
    have := sm.1
    have := sm.2 qs[i] (List.getElem_mem lt)
    show Tb 2 60 (if way = 0 then _ else _)
    by_cases w0 : way = 0
    · rw [if_pos w0]
      exact (small i (by omega)).more (by decide) (by decide)
    · rw [if_neg w0, List.getElem?_eq_getElem lt]
      exact (small qs[i].2 (by omega)).more (by decide) (by decide)
  | none =>
    exact ((TbAll.cons ((tb_nm (n := 2) (z := "no") ⟨by decide +kernel, by decide +kernel⟩).more (by decide) (Nat.le_refl _)) (.cons h.tb .nil)).list).more (by decide) (by decide)
def dueD (qs : Qs) (nd : PyData) : PyData := .tuple [toldD qs nd 0, toldD qs nd 1]
theorem shw_due {qs : Qs} {nd : PyData} (sm : Small qs) (h : NdOk nd) : Shw (dueD qs nd) := ((TbAll.cons (tb_told sm h) (.cons (tb_told sm h) .nil)).tuple.more (Nat.le_refl _) (Nat.le_refl _)).shw
abbrev sp_placesR (K : PySem.W.Frag) (C : Addr) : Sp := DPf (α := Qs) (fun qs => [formR K C qs, dat K (qsD qs)]) FormOk (fun _ => dat K (.bool true))
theorem FormOk.small {qs : Qs} (h : FormOk qs) : Small qs := ⟨h.2.1, fun q hq => (h.2.2.1 q hq).2⟩
theorem FormOk.nm {qs : Qs} (h : FormOk qs) : ∀ z ∈ names qs, Nm z := fun z hz => (h.2.2.2.2 z hz).mono (by decide)
section
variable {P : Program} {w : World} {K : PySem.W.Frag} {mg : Str → Option Value} {base : Heap} {C_Form C_NoName C_BlankError : Addr}
theorem sc_placesR : FnScope ["deal", "form", "questions", "names", "name", "many", "at", "due"] ["deal", "form", "questions"] (defScope s_placesR) := ⟨rfl, rfl, rfl, by decide +kernel, rfl, by decide +kernel, by decide +kernel⟩
theorem ok_placesR (D : Def K mg "_law_places_right" s_placesR ["deal", "form", "questions"]) (C_namesOf : Cal P w K mg base CX0 1 "names_of" s_namesOf ["form"] (spNames K C_Form)) (n_repr : mg "repr" = none) (n_tuple : mg "tuple" = none) (n_range : mg "range" = none) (n_len : mg "len" = none) (C_placeOf : Cal P w K mg base (L2.CX P w) 3 "place_of" s_placeOf ["form", "name"] (spPlace K C_Form C_NoName)) (C_answersOf : Cal P w K mg base (L2.CX P w) 4 "answers_of" s_answersOf ["form", "name"] (spAnswers K C_Form C_NoName)) (C_lname : Cal P w K mg base CX0 3 "_law_name" s_lname ["deal"] (sp_lname K)) (C_told : Cal P w K mg base CX0 5 "_law_told" s_told ["form", "name", "way"] (sp_told K C_Form)) : CalG P w K mg base CX0 6 "_law_places_right" s_placesR ["deal", "form", "questions"] (sp_placesR K C_Form) := by
  refine D.okG sc_placesR (fun vs H Q E h => ?_) (fun cdv f A outer s H vs Q E gd hr h => ?_)
  · exact dpf_len h fun _ => rfl
  replace h := dpf2 h
  obtain ⟨d, v1, v2, c, B, qs, rfl, L, hf, hq, ok, k⟩ := h
  refine ⟨_, (pss_cons (ps_setLc (i := 3) (own := [("name", 4), ("many", 5)]) (g := gTup K 2 (gCons (gName 4) (gCons (gName 5) gNil))) (tt := tYes) rfl sc_placesR.nd rfl rfl (sw_true rfl rfl rfl (by decide +kernel)) (pi_tup (pv 2)) (blkOk_by (own := [("name", 4), ("many", 5)]) (N := ["deal", "form", "questions", "names", "name", "many", "at", "due"]) (sc := defScope s_placesR) (by decide +kernel)) (fun _ _ _ _ _ => (pg_tup rfl (pgs_cons (pg_name (i := 4) sc_placesR.nd rfl (Or.inl rfl)) (pgs_cons (pg_name (i := 5) sc_placesR.nd rfl (Or.inl rfl)) pgs_nil)))) (fun _ _ _ _ _ => pts_nil) (fun _ _ _ _ _ => (pv 4)))
    (pss_cons (ps_if (PW.pt (pw_or (pt_cmpR op_ne (pe_callB (call_show gd hr.units) (by rfl) n_repr (by decide +kernel) (pa_cons (pe_cal C_namesOf (hr.mono (by decide)) (by rfl) pass0 (pa_cons (pv 1) pa_nil)) pa_nil)) (pe_callB (call_show gd hr.units) (by rfl) n_repr (by decide +kernel) (pa_cons (pe_callTy call_tuple_of (by rfl) n_tuple (by decide +kernel) (pa_cons (pv 3) pa_nil)) pa_nil)) (nomark _)) (pw_or1 (pt_cmpR (op_neD hr.units) (pe_calK C_namesOf (hr.mono (by decide)) (by rfl) pass0 kw_namesOf (pk_cons (pv 1) pk_nil)) (pe_callTy call_tuple_of (by rfl) n_tuple (by decide +kernel) (pa_cons (pv 3) pa_nil)) (nomark _))))) (pss_one (ps_ret pe_bl)) pss_nil)
    (pss_cons (ps_for PassesOwn.leaving rfl (pi_range1 rfl n_range (pa_cons (pe_callB call_len (by rfl) n_len (by decide +kernel) (pa_cons (pv 3) pa_nil)) pa_nil)) (pg_name (i := 6) sc_placesR.nd rfl (Or.inl rfl)) (pss_cons (ps_if (pt_cmpR op_ne (pe_callB (call_show gd hr.units) (by rfl) n_repr (by decide +kernel) (pa_cons (pe_tup (pa_cons (pe_cal C_placeOf.quiet (hr.mono (by decide)) (by rfl) pass0 (pa_cons (pv 1) (pa_cons (pe_ix ix_list (pv 3) (pv 6) (fun _ _ => rfl)) pa_nil))) (pa_cons (pe_cal C_answersOf.quiet (hr.mono (by decide)) (by rfl) pass0 (pa_cons (pv 1) (pa_cons (pe_ix ix_list (pv 3) (pv 6) (fun _ _ => rfl)) pa_nil))) pa_nil))) pa_nil)) (pe_callB (call_show gd hr.units) (by rfl) n_repr (by decide +kernel) (pa_cons (pe_tup (pa_cons (pv 6) (pa_cons (pe_ix ix_tup (pe_ix ix_tup (pv 2) (pv 6) (fun _ _ => rfl)) pe_int (fun _ _ => rfl)) pa_nil))) pa_nil)) (nomark _)) (pss_one (ps_ret pe_bl)) pss_nil)
      (pss_one (ps_if (PW.pt (pw_or (pt_cmpR op_ne (pe_calK C_placeOf.quiet (hr.mono (by decide)) (by rfl) pass0 kw_placeOf (pk_cons (pe_ix ix_list (pv 3) (pv 6) (fun _ _ => rfl)) (pk_cons (pv 1) pk_nil))) (pv 6) (nomark _)) (pw_or1 (pt_cmpR op_ne (pe_calK C_answersOf.quiet (hr.mono (by decide)) (by rfl) pass0 kw_answersOf (pk_cons (pe_ix ix_list (pv 3) (pv 6) (fun _ _ => rfl)) (pk_cons (pv 1) pk_nil))) (pe_ix ix_tup (pe_ix ix_tup (pv 2) (pv 6) (fun _ _ => rfl)) pe_int (fun _ _ => rfl)) (nomark _))))) (pss_one (ps_ret pe_bl)) pss_nil))))
    (pss_cons (ps_for PassesOwn.leaving rfl (pi_list (pe_lst (pa_cons (pe_cal C_lname (hr.mono (by decide)) (by rfl) pass0 (pa_cons (pv 0) pa_nil)) (pa_cons (pe_op op_add_str (pe_ix ix_list (pv 3) pe_int (fun _ _ => rfl)) pe_str) (pa_cons (pe_slice sl_str (pe_ix ix_list (pv 3) (pe_un un_neg pe_int) (fun _ _ => rfl)) po_none (po_some (pe_un un_neg pe_int))) (pa_cons pe_str (pa_cons pe_non (pa_cons pe_int (pa_cons (pe_tup (pa_cons (pe_ix ix_list (pv 3) pe_int (fun _ _ => rfl)) pa_nil)) (pa_cons (pe_lst (pa_cons (pe_ix ix_list (pv 3) pe_int (fun _ _ => rfl)) pa_nil)) pa_nil)))))))))) (pg_name (i := 4) sc_placesR.nd rfl (Or.inl rfl)) (pss_cons (ps_set (i := 7) sc_placesR.nd rfl (Or.inl rfl) (pe_ifExp (pt_cmpR (op_inD hr.u65) (pv 4) (pv 3) rfl) (pe_tup (pa_cons (pe_bm PySem.F.plainAttrs_list PySem.F.slot_list_index PySem.F.type_list_index (mt_indexD hr.u65) (pv 3) (pa_cons (pv 4) pa_nil)) (pa_cons (pe_ix ix_tup (pe_ix ix_tup (pv 2) (pe_bm PySem.F.plainAttrs_list PySem.F.slot_list_index PySem.F.type_list_index (mt_indexD hr.u65) (pv 3) (pa_cons (pv 4) pa_nil)) (fun _ _ => rfl)) pe_int (fun _ _ => rfl)) pa_nil))) (pe_tup (pa_cons (pe_lst (pa_cons pe_str (pa_cons (pv 4) pa_nil))) (pa_cons (pe_lst (pa_cons pe_str (pa_cons (pv 4) pa_nil))) pa_nil)))))
      (pss_one (ps_if (pt_cmpR op_ne (pe_callB (call_show gd hr.units) (by rfl) n_repr (by decide +kernel) (pa_cons (pe_tup (pa_cons (pe_cal C_told (hr.mono (by decide)) (by rfl) pass0 (pa_cons (pv 1) (pa_cons (pv 4) (pa_cons pe_int pa_nil)))) (pa_cons (pe_cal C_told (hr.mono (by decide)) (by rfl) pass0 (pa_cons (pv 1) (pa_cons (pv 4) (pa_cons pe_int pa_nil)))) pa_nil))) pa_nil)) (pe_callB (call_show gd hr.units) (by rfl) n_repr (by decide +kernel) (pa_cons (pv 7) pa_nil)) (nomark _)) (pss_one (ps_ret pe_bl)) pss_nil))))
    (pss_one (ps_ret pe_bl)))))), ?_⟩
  have sm := ok.small
  have nm := ok.nm
  have few : qs.length ≤ 4 := sm.1
  have line := sizeLine_eq
  have ln : (names qs).length = qs.length := by unfold names; rw [List.length_map]
  refine s_set (De.eq (De.lcA (K := K) (as := qs) (r := fun q => dat K (encQ q)) (Di.tupM (.var hq rfl)) (fun q => .str q.1) (by omega) fun q x Bn Hn _ _ sh hx => ?_) (e := .list ((names qs).map .str)) ?_) L.bh fun v3 B1 H1 e1 h3 => ?_
  · obtain ⟨y, z, hy, hz, go⟩ := gTup2 sh (dat_pair hx)
    exact ⟨_, fun Q q => go Q q, rfl, .var hy rfl⟩
  · unfold names
    rw [List.map_map]
    rfl
  refine s_skip (Dt.or2 (Dt.reprs (K := K) (De.call qs (.cons (.var (Mo.mo e1.bb hf) rfl) .nil) sm) (De.tupleL (.var h3 rfl)) (tb_lot nm (by omega)).shw) (Dt.same (K := K) (De.callK qs (.cons (.var (Mo.mo e1.bb hf) rfl) .nil) rfl (fun _ _ => kw1) sm) (De.tupleL (.var h3 rfl)) (shaped_lot nm))) e1.bh fun B2 H2 e2 => ?_
  have e12 := e1.trans e2
  refine s_forS (Di.rng (K := K) (De.lenL (.var (Mo.mo e2.bb h3) rfl)) (by rw [List.length_map]; omega)) e2.bh (fun i σ _ => ∃ v6, σ = [some (.ref d), some v1, some v2, some v3, none, none, v6, none]) (fun _ _ => ⟨_, rfl⟩) ?_ ?_
  · rintro B3 H3 e3 i R x σ' Bc Bn Hn hR ⟨v6, rfl⟩ s e hx
    rw [List.getElem?_map] at hR
    obtain ⟨j, hj, rfl⟩ := Option.map_eq_some_iff.mp hR
    have hj' := (List.getElem?_eq_some_iff.mp hj)
    have li : i < qs.length := by
      have := hj'.1
      rw [List.length_range, List.length_map, ln] at this
      exact this
    have ej : j = i := by
      have := hj'.2
      rw [List.getElem_range] at this
      exact this.symm
    subst ej
    have hx := dat_int hx
    subst hx
    have hqi : qs[j]? = some qs[j] := List.getElem?_eq_getElem li
    have hni := names_at hqi
    have pl := place_own ok.2.2.2.1 hni
    have sh := shaped_str (nm _ (List.mem_of_getElem? hni))
    have b3 := (e2.bb.trans e3.bb).trans e.bb
    have hf := Mo.mo (e1.bb.trans b3) hf
    have hq := Mo.mo (e1.bb.trans b3) hq
    have h3 := Mo.mo b3 h3
    have small : ∀ i : Nat, i ≤ 100 → Tb 0 0 (.int (i : Int)) := fun i hi => tb_int (Nat.lt_of_le_of_lt (show ((i : Int)).natAbs ≤ 100 by omega) (Nat.lt_of_lt_of_le (show 100 < 2 ^ 7 by decide) (Nat.pow_le_pow_right (by decide) (by decide))))
    have q4 := sm.2 qs[j] (List.getElem_mem _)
    have ixN : ∀ {Bx : Hp}, Rv (rIxL K) Bx (dat K (.list ((names qs).map .str))) (dat K (.int (j : Int))) (dat K (.str qs[j].1)) := Rv.ixLD (atI_nat (by rw [List.getElem?_map, hni]; rfl))
    have ixQ : ∀ {Bx : Hp}, Rv (rIxT K) Bx (dat K (qsD qs)) (dat K (.int (j : Int))) (dat K (encQ qs[j])) := Rv.ixTD (atI_nat (by rw [List.getElem?_map, hqi]; rfl))
    refine s_skip (Dt.reprs (K := K) (d := .tuple [.int (j : Int), .int (qs[j].2 : Int)]) (De.tupD (.cons (De.place (.var hf rfl) (De.op (r := rIxL K) (.var h3 rfl) (.var (Dp.int _) rfl) ixN) sm nm sh pl) (.cons (De.answers (.var hf rfl) (De.op (r := rIxL K) (.var h3 rfl) (.var (Dp.int _) rfl) ixN) sm nm sh pl hqi) .nil)) (by show 2 ≤ sizeLine; decide)) (De.tupD (.cons (.var (Dp.int _) rfl) (.cons (De.op (r := rIxT K) (De.op (r := rIxT K) (.var hq rfl) (.var (Dp.int _) rfl) ixQ) .int (Rv.ixTD rfl)) .nil)) (by show 2 ≤ sizeLine; decide)) ((TbAll.cons (small j (by omega)) (.cons (small _ (by omega)) .nil)).tuple.shw)) e.bh fun B4 H4 e4 => ?_
    have hf := Mo.mo e4.bb hf
    have hq := Mo.mo e4.bb hq
    have h3 := Mo.mo e4.bb h3
    refine s_if (Dt.or2 (Dt.sameI (K := K) (De.placeK (.var hf rfl) (De.op (r := rIxL K) (.var h3 rfl) (.var (Dp.int _) rfl) ixN) sm nm sh pl) (.var (Dp.int _) rfl)) (Dt.sameI (K := K) (De.answersK (.var hf rfl) (De.op (r := rIxL K) (.var h3 rfl) (.var (Dp.int _) rfl) ixN) sm nm sh pl hqi) (De.op (r := rIxT K) (De.op (r := rIxT K) (.var hq rfl) (.var (Dp.int _) rfl) ixQ) .int (Rv.ixTD rfl)))) e4.bh (fun z => nomatch z) fun _ B5 H5 e5 => ⟨B5, (e.trans e4).trans e5, _, rfl⟩
  rintro σ' B3 H3 e3 ⟨v6, rfl⟩
  have eD := ExtD.of L ((e1.trans e2).trans e3)
  refine s_forL (K := K) ?_
  refine c_def () eD.dl rfl .nil (by trivial) fun v B4 H4 e4 hv => ?_
  obtain ⟨z0, hz0, rfl⟩ := hv
  have eD4 := eD.trans L e4
  have b4 := (e2.bb.trans e3.bb).trans e4.bb
  have hf := Mo.mo (e1.bb.trans b4) hf
  have hq := Mo.mo (e1.bb.trans b4) hq
  have h3 := Mo.mo b4 h3
  have ne : names qs ≠ [] := fun z => by
    have := ok.1
    rw [z] at ln
    simp at ln
    omega
  obtain ⟨z1, r1, en⟩ : ∃ z1 r1, names qs = z1 :: r1 := by
    cases h : names qs with
    | nil => exact absurd h ne
    | cons a b => exact ⟨a, b, rfl⟩
  obtain ⟨ini, zl, el⟩ : ∃ ini zl, names qs = ini ++ [zl] := ⟨_, _, (List.dropLast_concat_getLast ne).symm⟩
  have k1 : Nmk 17 z1 := ok.2.2.2.2 z1 (by rw [en]; exact List.mem_cons_self)
  have kl : Nmk 17 zl := ok.2.2.2.2 zl (by rw [el]; simp)
  have kq : Nmk 1 "q" := ⟨by decide +kernel, by decide +kernel⟩
  have ix0 : ∀ {Bx : Hp}, Rv (rIxL K) Bx (dat K (.list ((names qs).map .str))) (dat K (.int 0)) (dat K (.str z1)) := Rv.ixLD (by rw [en]; exact atI_nat (j := 0) rfl)
  have ixl : ∀ {Bx : Hp}, Rv (rIxL K) Bx (dat K (.list ((names qs).map .str))) (dat K (.int (-1))) (dat K (.str zl)) := Rv.ixLD (by rw [el, List.map_append]; exact atI_last _ _)
  refine r_da (Rs := [dat K (.str (z1 ++ "q")), dat K (.str (cutS zl none (some (-1)))), dat K (.str ""), dat K .none, dat K (.int 0), dat K (.tuple [.str z1]), dat K (.list [.str z1])]) (.cons (De.op (De.op (r := rIxL K) (.var h3 rfl) .int ix0) .str (Rv.addS (by have := k1.1; have := kq.1; omega))) (.cons (De.slS (De.op (r := rIxL K) (.var h3 rfl) (De.negI .int) ixl) .none (.some (K := K) (De.negI .int)) (by have := kl.1; omega)) (.cons .str (.cons .non (.cons .int (.cons (De.tupD (.cons (De.op (r := rIxL K) (.var h3 rfl) .int ix0) .nil) (by show 1 ≤ sizeLine; decide)) (.cons (De.lstD (.cons (De.op (r := rIxL K) (.var h3 rfl) .int ix0) .nil) (by show 1 ≤ sizeLine; decide)) .nil))))))) e4.bh fun vs B5 H5 e5 hvs => ?_
  have eD5 := eD4.trans L (.of eD4.dl e5)
  refine ⟨by have := allR_len hvs; rw [List.length_cons, this, line]; show 8 ≤ _; omega, fun p hp => ⟨p, rfl, ⟨_, SqL.of upd_same⟩, ?_⟩⟩
  have e6 := Ext.new (o := .lst (.str z0 :: vs)) eD5.bh hp
  have eD6 := eD5.trans L (.of eD5.dl e6)
  have hl : dat K (.list [.str z0, .str (z1 ++ "q"), .str (cutS zl none (some (-1))), .str "", .none, .int 0, .tuple [.str z1], .list [.str z1]]) (upd B5 p (.lst (.str z0 :: vs))) (.ref p) := lstR_dat ⟨p, _, rfl, SqL.of upd_same, _, _, rfl, Dp.str _, MoA.mo e6.bb hvs⟩
  have b6 := e5.bb.trans e6.bb
  have hf := Mo.mo b6 hf
  have hq := Mo.mo b6 hq
  have h3 := Mo.mo b6 h3
  have nds : ∀ nd ∈ [PyData.str z0, .str (z1 ++ "q"), .str (cutS zl none (some (-1))), .str "", .none, .int 0, .tuple [.str z1], .list [.str z1]], NdOk nd := by
    have str : ∀ {z : Str}, Nmk 20 z → NdOk (.str z) := fun h => ⟨shaped_str h, (tb_nm h).more (by decide) (by decide)⟩
    have one : ∀ {z : Str}, Nmk 17 z → TbAll 0 19 [PyData.str z] := fun h => (TbAll.cons (tb_nm h) .nil).more (Nat.le_refl _) (by decide)
    intro nd h
    simp only [List.mem_cons, List.not_mem_nil, or_false] at h
    rcases h with rfl | rfl | rfl | rfl | rfl | rfl | rfl | rfl
    · exact str (hz0.mono (by decide))
    · exact str ((k1.app kq).mono (by decide))
    · exact str (kl.cut.mono (by decide))
    · exact str ⟨by decide +kernel, by decide +kernel⟩
    · exact ⟨by decide +kernel, tb_none.more (by decide) (by decide)⟩
    · exact ⟨by decide +kernel, (tb_int (by show 0 < 2 ^ 1900; exact Nat.two_pow_pos _)).more (by decide) (by decide)⟩
    · exact ⟨shaped_lot (l := [z1]) (fun z hz => by rw [List.mem_singleton.mp hz]; exact k1.mono (by decide)), (one k1).tuple.more (by decide) (by decide)⟩
    · exact ⟨shaped_strsL (l := [z1]) (fun z hz => by rw [List.mem_singleton.mp hz]; exact k1.mono (by decide)), (one k1).list.more (by decide) (by decide)⟩
  generalize [PyData.str z0, .str (z1 ++ "q"), .str (cutS zl none (some (-1))), .str "", .none, .int 0, .tuple [.str z1], .list [.str z1]] = all at hl nds
  refine s_forS (Di.itl (K := K) hl) e6.bh (fun i σ _ => ∃ v4 v6 v7, σ = [some (.ref d), some v1, some v2, some v3, v4, none, v6, v7]) (fun _ _ => ⟨_, _, _, rfl⟩) ?_ ?_
  · rintro B7 H7 e7 i R x σ' Bc Bn Hn hR ⟨v4, v6, v7, rfl⟩ s e hx
    rw [List.getElem?_map] at hR
    obtain ⟨nd, hnd, rfl⟩ := Option.map_eq_some_iff.mp hR
    have hn := nds nd (List.mem_of_getElem? hnd)
    have b8 := e7.bb.trans e.bb
    have hf := Mo.mo b8 hf
    have hq := Mo.mo b8 hq
    have h3 := Mo.mo b8 h3
    refine s_set (R := dat K (dueD qs nd)) ?_ e.bh fun v8 B9 H9 e9 h9 => ?_
    · cases hp : placeD (names qs) nd with
      | some j =>
        obtain ⟨z, hz, _, _, yes⟩ := place_some hp
        have lt := (List.getElem?_eq_some_iff.mp hz).1
        rw [ln] at lt
        have hqj : qs[j]? = some qs[j] := List.getElem?_eq_getElem lt
        refine De.ite (b := true) (Dt.eq (Dt.test (K := K) (De.op (r := rInD K) (.var hx rfl) (.var h3 rfl) (Rv.inL hn.sd (shaped_strsL nm)))) yes) (fun _ => De.eq (De.tupD (K := K) (.cons (De.index (.var h3 rfl) (.var hx rfl) nm hn.sd hp) (.cons (De.op (r := rIxT K) (De.op (r := rIxT K) (.var hq rfl) (De.index (.var h3 rfl) (.var hx rfl) nm hn.sd hp) (Rv.ixTD (d := encQ qs[j]) (atI_nat (by rw [List.getElem?_map, hqj]; rfl)))) .int (Rv.ixTD (d := .int (qs[j].2 : Int)) rfl)) .nil)) (by show 2 ≤ sizeLine; decide)) ?_) (fun z => nomatch z)
        unfold dueD toldD
        rw [hp]
        simp [hqj]
      | none =>
        refine De.ite (b := false) (Dt.eq (Dt.test (K := K) (De.op (r := rInD K) (.var hx rfl) (.var h3 rfl) (Rv.inL hn.sd (shaped_strsL nm)))) (place_none hp)) (fun z => nomatch z) (fun _ => De.eq (De.tupD (K := K) (.cons (De.lstD (.cons .str (.cons (.var hx rfl) .nil)) (by show 2 ≤ sizeLine; decide)) (.cons (De.lstD (.cons .str (.cons (.var hx rfl) .nil)) (by show 2 ≤ sizeLine; decide)) .nil)) (by show 2 ≤ sizeLine; decide)) ?_)
        unfold dueD toldD
        rw [hp]
    have hf := Mo.mo e9.bb hf
    have hx := Mo.mo e9.bb hx
    exact s_if (Dt.reprs (K := K) (De.tupD (.cons (De.call (qs, nd, (0 : Int)) (.cons (.var hf rfl) (.cons (.var hx rfl) (.cons .int .nil))) ⟨sm, nm, hn.sd⟩) (.cons (De.call (qs, nd, (1 : Int)) (.cons (.var hf rfl) (.cons (.var hx rfl) (.cons .int .nil))) ⟨sm, nm, hn.sd⟩) .nil)) (by show 2 ≤ sizeLine; decide)) (.var h9 rfl) (shw_due sm hn)) e9.bh (fun z => nomatch z) fun _ B8 H8 e8 => ⟨B8, (e.trans e9).trans e8, _, _, _, rfl⟩
  · rintro σ' B7 H7 e7 ⟨v4, v6, v7, rfl⟩
    have eD7 := eD6.trans L (.of eD6.dl e7)
    exact s_ret (De.bl (K := K)) e7.bh fun v B H e h => k v B H (eD7.trans L (.of eD7.dl e)) h
end
end K04

set_option Elab.async false
set_option linter.all false
set_option maxRecDepth 100000
set_option maxHeartbeats 4000000
/-! K04i: the law itself. -/
namespace K04
open PySem PySem.Spec PyProof.Rows L2 Wb Wv Fm
abbrev sp_law := Wb.spLaw
theorem sub_filter {zs ns : List Str} (h : zs.Sublist ns) (nd : ns.Nodup) : (ns.filter fun z => decide (z ∈ zs)) = zs := by
  induction h with
  | slnil => rfl
  | @cons l1 l2 a h ih =>
    obtain ⟨h1, h2⟩ := List.nodup_cons.mp nd
    have : a ∉ l1 := fun z => h1 (h.subset z)
    rw [List.filter_cons, if_neg (by simpa using this)]
    exact ih h2
  | @cons_cons l1 l2 a h ih =>
    obtain ⟨h1, h2⟩ := List.nodup_cons.mp nd
    rw [List.filter_cons, if_pos (by simp)]
    congr 1
    refine Eq.trans (List.filter_congr fun x hx => ?_) (ih h2)
    have : x ≠ a := fun e => h1 (by rw [← e]; exact hx)
    simp [this]
theorem grow_ne {α : Type} (ls : List (List α)) (h : ∀ l ∈ ls, l ≠ []) : grow ls ≠ [] := by
  suffices ∀ k, k ≤ ls.length → 0 < (grow (ls.take k)).length by
    have := this ls.length (Nat.le_refl _)
    rw [List.take_length] at this
    exact List.ne_nil_of_length_pos this
  intro k
  induction k with
  | zero =>
    intro _
    rw [List.take_zero]
    exact Nat.zero_lt_one
  | succ k ih =>
    intro hk
    have e : ls.take (k + 1) = ls.take k ++ [ls[k]] := by rw [List.take_succ, List.getElem?_eq_getElem (by omega)]; rfl
    rw [e, grow_snoc, grow1_len]
    exact Nat.mul_pos (ih (by omega)) (List.length_pos_iff.mpr (h _ (List.getElem_mem _)))
theorem c_tupL {K : PySem.W.Frag} {d c : Addr} {B H : Hp} {v : V} {out : List PyData} {Q : VK} (L : Dl B H d c) (h : dat K (.list out) B v) (k : ∀ u B' H', ExtD d c B H B' H' → dat K (.tuple out) B' u → Q u H') : rTup K [v] H Q := by
  obtain ⟨a, xs, rfl, hs, hR⟩ := dat_lstR h
  refine ⟨a, xs, rfl, .inl ⟨L.bh.seq hs, fun p hp => ?_⟩⟩
  have e := Ext.new (o := .tup xs) L.bh hp
  exact k _ _ _ (.of L e) (tupR_dat ⟨p, xs, rfl, SqT.of upd_same, MoA.mo e.bb hR⟩)
/-- some of the names, drawn -/
theorem c_some {K : PySem.W.Frag} {σ : L2.St} {d c : Addr} {B H : Hp} {ns : List Str} {Q : VK} {E : XK} {v4 : V} {i4 i6 i1 : Nat} (L : Dl B H d c) (h4 : dat K (.list (ns.map .str)) B v4) (few : ns.length ≤ 4) (g4 : σ[i4]? = some (some v4)) (g1 : ((wipe σ [i6]).set i6 (some .non))[i1]? = some (some (.ref d))) (ne : i1 ≠ i6) (lt : i6 < σ.length)
    (k : ∀ zs v B' H', zs.Sublist ns → ExtD d c B H B' H' → dat K (lotD zs) B' v → Q v H') :
    tCB (rTup K) (tCons (tLc (iList K (tVar i4)) (gName i6) (tTest (tOp rEq (tCall spAny [] E (tCons (tVar i1) (tCons (tC (.int 2)) tNil))) (tC (.int 0)))) (tVar i6) [i6]) tNil) σ H Q := by
  have line := sizeLine_eq
  have wl : i6 < (wipe σ [i6]).length := by rw [wipe_length]; exact lt
  refine c_lcD (K := K) (Q := fun x H1 => rTup K [x] H1 Q) (as := ns) (r := fun z => dat K (.str z)) L (Di.listM (f := PyData.str) (.var h4 g4)) (by omega) (fun i out => ∃ zs : List Str, out = zs.map .str ∧ zs.Sublist (ns.take i)) ⟨[], rfl, List.nil_sublist _⟩ (fun i z x B1 H1 out hz L1 s1 hx ⟨zs, ho, hs⟩ Y N hY hN => ?_) fun out v B' H' e ⟨zs, ho, hs⟩ hv => ?_
  · have hx := dat_str hx
    subst hx
    have tk := take_snoc hz
    have g1' : ((wipe σ [i6]).set i6 (some (.str z)))[i1]? = some (some (.ref d)) := by
      rw [List.getElem?_set_ne (Ne.symm ne)] at *
      exact g1
    refine ⟨?_, t_any0 (K := K) L1 g1' .int (by decide) (by decide) fun b B2 H2 e2 => ?_⟩
    · show ((wipe σ [i6]).set i6 (some (.str z))).set i6 none = wipe σ [i6]
      rw [List.set_set]
      show ((σ.set i6 none).set i6 none) = σ.set i6 none
      rw [List.set_set]
    · cases b with
      | true =>
        refine ⟨.str z, List.getElem?_set_self wl, hY _ _ _ (.str z) e2 (Dp.str _) ⟨zs ++ [z], by rw [ho]; simp, ?_⟩⟩
        rw [tk]
        exact hs.append (List.Sublist.refl _)
      | false =>
        refine hN _ _ e2 ⟨zs, ho, ?_⟩
        rw [tk]
        exact hs.trans (List.sublist_append_left _ _)
  · subst ho
    rw [List.take_length] at hs
    exact c_tupL e.dl hv fun u B2 H2 e2 hu => k zs u B2 H2 hs (e.trans L e2) hu
section
variable {P : Program} {w : World} {K : PySem.W.Frag} {mg : Str → Option Value} {base : Heap} {C_Form C_NoName C_BlankError : Addr}
theorem sc_law : FnScope ["script", "deal", "questions", "form", "names", "rows", "name", "many", "turn", "lot", "other"] ["script"] (defScope s_law) := ⟨rfl, rfl, rfl, by decide +kernel, rfl, by decide +kernel, by decide +kernel⟩
theorem ok_law (D : Def K mg "law" s_law ["script"]) (C_source : Cal P w K mg base CX0 1 "_law_source" s_source ["script"] (spSource K)) (C_lform : Cal P w K mg base CX0 5 "_law_form" s_lform ["deal"] (sp_lform K)) (K_Form : CalC P w K mg base "Form" C_Form ["questions"]) (C_lrows : Cal P w K mg base CX0 1 "_law_rows" s_lrows ["questions", "least"] (sp_lrows K)) (C_truths : Cal P w K mg base CX0 2 "truths" s_truths ["form"] (spTruths K C_Form)) (n_repr : mg "repr" = none) (n_tuple : mg "tuple" = none) (C_lots : Cal P w K mg base CX0 2 "lots" s_lots ["form"] (spLots K C_Form)) (C_subsets : Cal P w K mg base CX0 1 "_law_subsets" s_subsets ["names"] (sp_subsets K)) (C_allSheets : Cal P w K mg base CX0 2 "all_sheets" s_allSheets ["form"] (spSheets K C_Form)) (n_len : mg "len" = none) (C_placesR : CalG P w K mg base CX0 6 "_law_places_right" s_placesR ["deal", "form", "questions"] (sp_placesR K C_Form)) (n_range : mg "range" = none) (C_any : Cal P w K mg base CX0 1 "_law_any" s_any ["deal", "bound"] spAny) (C_sheetsR : CalG P w K mg base CX0 3 "_law_sheets_right" s_sheetsR ["form", "questions", "lot", "truth"] (sp_sheetsR K C_Form)) (C_of : Cal P w K mg base CX0 2 "_law_of" s_of ["deal", "some"] (spOf K)) (C_lotsR : CalG P w K mg base CX0 2 "_law_lots_right" s_lotsR ["lot", "names"] (sp_lotsR K)) : CalG P w K mg base CX0 7 "law" s_law ["script"] (sp_law K) := by
  refine D.okG sc_law (fun vs H Q E h => ?_) (fun cdv f A outer s H vs Q E gd hr h => ?_)
  · obtain ⟨a, ns, rfl, _⟩ := h
    rfl
  obtain ⟨a, ns, rfl, hs, few, k⟩ := h
  refine ⟨_, (pss_cons (ps_set (i := 1) sc_law.nd rfl (Or.inr rfl) (pe_cal C_source (hr.mono (by decide)) (by rfl) pass0 (pa_cons (pv 0) pa_nil)))
    (pss_cons (ps_set (i := 2) sc_law.nd rfl (Or.inl rfl) (pe_cal C_lform (hr.mono (by decide)) (by rfl) pass0 (pa_cons (pv 1) pa_nil)))
    (pss_cons (ps_set (i := 3) sc_law.nd rfl (Or.inl rfl) (pe_calC K_Form hr (by decide) (by rfl) (pa_cons (pv 2) pa_nil)))
    (pss_cons (ps_par (i := 4) (j := 5) rfl sc_law.nd rfl rfl (by decide) rfl rfl (pa_cons (pe_lc (own := [("name", 6), ("many", 7)]) (g := gTup K 2 (gCons (gName 6) (gCons (gName 7) gNil))) (tt := tYes) rfl sc_law.nd (pi_tup (pv 2)) (blkOk_by (own := [("name", 6), ("many", 7)]) (N := ["script", "deal", "questions", "form", "names", "rows", "name", "many", "turn", "lot", "other"]) (sc := defScope s_law) (by decide +kernel)) (fun _ _ _ _ _ => (pg_tup rfl (pgs_cons (pg_name (i := 6) sc_law.nd rfl (Or.inl rfl)) (pgs_cons (pg_name (i := 7) sc_law.nd rfl (Or.inl rfl)) pgs_nil)))) (fun _ _ _ _ _ => pts_nil) (fun _ _ _ _ _ => (pv 6))) (pa_cons (pe_cal C_lrows (hr.mono (by decide)) (by rfl) pass0 (pa_cons (pv 2) (pa_cons pe_int pa_nil))) pa_nil)) (by rfl))
    (pss_cons (ps_if (PW.pt (pw_or (pt_cmpR op_ne (pe_callB (call_show gd hr.units) (by rfl) n_repr (by decide +kernel) (pa_cons (pe_cal C_truths (hr.mono (by decide)) (by rfl) pass0 (pa_cons (pv 3) pa_nil)) pa_nil)) (pe_callB (call_show gd hr.units) (by rfl) n_repr (by decide +kernel) (pa_cons (pe_callTy call_tuple_of (by rfl) n_tuple (by decide +kernel) (pa_cons (pv 5) pa_nil)) pa_nil)) (nomark _)) (pw_or1 (pt_cmpR (op_neD hr.units) (pe_calK C_truths (hr.mono (by decide)) (by rfl) pass0 kw_truths (pk_cons (pv 3) pk_nil)) (pe_callTy call_tuple_of (by rfl) n_tuple (by decide +kernel) (pa_cons (pv 5) pa_nil)) (nomark _))))) (pss_one (ps_ret pe_bl)) pss_nil)
    (pss_cons (ps_if (PW.pt (pw_or (pt_cmpR op_ne (pe_callB (call_show gd hr.units) (by rfl) n_repr (by decide +kernel) (pa_cons (pe_cal C_lots (hr.mono (by decide)) (by rfl) pass0 (pa_cons (pv 3) pa_nil)) pa_nil)) (pe_callB (call_show gd hr.units) (by rfl) n_repr (by decide +kernel) (pa_cons (pe_callTy call_tuple_of (by rfl) n_tuple (by decide +kernel) (pa_cons (pe_cal C_subsets (hr.mono (by decide)) (by rfl) pass0 (pa_cons (pv 4) pa_nil)) pa_nil)) pa_nil)) (nomark _)) (pw_or1 (pt_cmpR (op_neD hr.units) (pe_calK C_lots (hr.mono (by decide)) (by rfl) pass0 kw_lots (pk_cons (pv 3) pk_nil)) (pe_callTy call_tuple_of (by rfl) n_tuple (by decide +kernel) (pa_cons (pe_cal C_subsets (hr.mono (by decide)) (by rfl) pass0 (pa_cons (pv 4) pa_nil)) pa_nil)) (nomark _))))) (pss_one (ps_ret pe_bl)) pss_nil)
    (pss_cons (ps_if (PW.pt (pw_or (pt_cmpR op_ne (pe_callB (call_show gd hr.units) (by rfl) n_repr (by decide +kernel) (pa_cons (pe_cal C_allSheets (hr.mono (by decide)) (by rfl) pass0 (pa_cons (pv 3) pa_nil)) pa_nil)) (pe_callB (call_show gd hr.units) (by rfl) n_repr (by decide +kernel) (pa_cons (pe_callTy call_tuple_of (by rfl) n_tuple (by decide +kernel) (pa_cons (pe_cal C_lrows (hr.mono (by decide)) (by rfl) pass0 (pa_cons (pv 2) (pa_cons (pe_op op_sub pe_int pe_int) pa_nil))) pa_nil)) pa_nil)) (nomark _)) (pw_or1 (pt_cmpR op_ne (pe_callB call_len (by rfl) n_len (by decide +kernel) (pa_cons (pe_calK C_allSheets (hr.mono (by decide)) (by rfl) pass0 kw_allSheets (pk_cons (pv 3) pk_nil)) pa_nil)) (pe_callB call_len (by rfl) n_len (by decide +kernel) (pa_cons (pe_cal C_lrows (hr.mono (by decide)) (by rfl) pass0 (pa_cons (pv 2) (pa_cons (pe_op op_sub pe_int pe_int) pa_nil))) pa_nil)) (nomark _))))) (pss_one (ps_ret pe_bl)) pss_nil)
    (pss_cons (ps_if (pt_not (pt_val (pe_calG C_placesR gd (hr.mono (by decide)) (by rfl) pass0 (pa_cons (pv 1) (pa_cons (pv 3) (pa_cons (pv 2) pa_nil)))))) (pss_one (ps_ret pe_bl)) pss_nil)
    (pss_cons (ps_for PassesOwn.leaving rfl (pi_range1 rfl n_range (pa_cons pe_int pa_nil)) (pg_name (i := 8) sc_law.nd rfl (Or.inl rfl)) (pss_cons (ps_set (i := 9) sc_law.nd rfl (Or.inl rfl) (pe_callTy call_tuple_of (by rfl) n_tuple (by decide +kernel) (pa_cons (pe_lc (own := [("name", 6)]) (g := gName 6) rfl sc_law.nd (pi_list (pv 4)) (blkOk_by (own := [("name", 6)]) (N := ["script", "deal", "questions", "form", "names", "rows", "name", "many", "turn", "lot", "other"]) (sc := defScope s_law) (by decide +kernel)) (fun _ _ _ _ _ => (pg_name (i := 6) sc_law.nd rfl (Or.inl rfl))) (fun _ _ _ _ _ => pts_one (pt_cmpR op_eq (pe_cal C_any (hr.mono (by decide)) (by rfl) pass0 (pa_cons (pv 1) (pa_cons pe_int pa_nil))) pe_int (nomark _))) (fun _ _ _ _ _ => (pv 6))) pa_nil)))
      (pss_cons (ps_set (i := 10) sc_law.nd rfl (Or.inl rfl) (pe_callTy call_tuple_of (by rfl) n_tuple (by decide +kernel) (pa_cons (pe_lc (own := [("name", 6)]) (g := gName 6) rfl sc_law.nd (pi_list (pv 4)) (blkOk_by (own := [("name", 6)]) (N := ["script", "deal", "questions", "form", "names", "rows", "name", "many", "turn", "lot", "other"]) (sc := defScope s_law) (by decide +kernel)) (fun _ _ _ _ _ => (pg_name (i := 6) sc_law.nd rfl (Or.inl rfl))) (fun _ _ _ _ _ => pts_one (pt_cmpR op_eq (pe_cal C_any (hr.mono (by decide)) (by rfl) pass0 (pa_cons (pv 1) (pa_cons pe_int pa_nil))) pe_int (nomark _))) (fun _ _ _ _ _ => (pv 6))) pa_nil)))
      (pss_one (ps_if (PW.pt (pw_or (pt_not (pt_val (pe_calG C_sheetsR gd (hr.mono (by decide)) (by rfl) pass0 (pa_cons (pv 3) (pa_cons (pv 2) (pa_cons (pv 9) (pa_cons (pe_cal C_of (hr.mono (by decide)) (by rfl) pass0 (pa_cons (pv 1) (pa_cons (pv 5) pa_nil))) pa_nil))))))) (pw_or1 (pt_not (pt_val (pe_calG C_lotsR gd (hr.mono (by decide)) (by rfl) pass0 (pa_cons (pv 9) (pa_cons (pv 10) pa_nil)))))))) (pss_one (ps_ret pe_bl)) pss_nil)))))
    (pss_one (ps_ret (pe_and (pe_calG C_lotsR gd (hr.mono (by decide)) (by rfl) pass0 (pa_cons (pe_callTy call_tuple_of (by rfl) n_tuple (by decide +kernel) (pa_cons (pv 4) pa_nil)) (pa_cons (pe_tup pa_nil) pa_nil))) (pe_and (pe_calG C_lotsR gd (hr.mono (by decide)) (by rfl) pass0 (pa_cons (pe_tup pa_nil) (pa_cons (pe_callTy call_tuple_of (by rfl) n_tuple (by decide +kernel) (pa_cons (pv 4) pa_nil)) pa_nil))) (pe_one (pe_cmpR op_eq (pe_callB (call_show gd hr.units) (by rfl) n_repr (by decide +kernel) (pa_cons (pe_fld (pv 3) rfl) pa_nil)) (pe_callB (call_show gd hr.units) (by rfl) n_repr (by decide +kernel) (pa_cons (pv 2) pa_nil)) (nomark _)))))))))))))))), ?_⟩
  have line := sizeLine_eq
  refine ⟨_, rfl, a, ns, rfl, hs, few, fun d c H1 _ _ D1 _ => ?_⟩
  clear hs few
  have L : Dl (off H1 d c) H1 d c := ⟨D1, Same.refl _⟩
  refine s_raw (c_def () L rfl .nil (by trivial) fun v2 B2 H2 e2 hv2 => ?_)
  obtain ⟨qs, ok, hq⟩ := hv2
  have sm := ok.small
  have nm := ok.nm
  have fq : qs.length ≤ 4 := sm.1
  have ln : (names qs).length = qs.length := by unfold names; rw [List.length_map]
  refine s_set (De.make (fs := ["questions"]) (Rs := [dat K (qsD qs)]) (.cons (.var hq rfl) .nil) (by rfl)) e2.bh fun v3 B3 H3 e3 hf => ?_
  have hf : formR K C_Form qs B3 v3 := hf
  have eD3 := e2.trans L (.of e2.dl e3)
  have hq := Mo.mo e3.bb hq
  have lr : (qs.map fun q => rng 0 ((q.2 : Int) - 0).toNat) = qs.map fun q => rng 0 q.2 := List.map_congr_left fun q _ => by simp
  have cnt : (grow (qs.map fun q => rng 0 q.2)).length ≤ 4 ^ 4 := by
    refine Nat.le_trans (grow_len (m := 4) _ fun l hl => ?_) (Nat.pow_le_pow_right (by decide) (by rw [List.length_map]; exact fq))
    obtain ⟨q, hq, rfl⟩ := List.mem_map.mp hl
    rw [rng_len]
    exact sm.2 q hq
  have cnt2 : (grow (qs.map fun q => rng (-1) (q.2 + 1))).length ≤ 5 ^ 4 := by
    refine Nat.le_trans (grow_len (m := 5) _ fun l hl => ?_) (Nat.pow_le_pow_right (by decide) (by rw [List.length_map]; exact fq))
    obtain ⟨q, hq, rfl⟩ := List.mem_map.mp hl
    rw [rng_len]
    exact Nat.succ_le_succ (sm.2 q hq)
  have entry : ∀ {lo : Int} {f : Str × Nat → Nat} {r : List Int}, -1 ≤ lo → lo ≤ 0 → (∀ q ∈ qs, f q ≤ 5) → r ∈ grow (qs.map fun q => rng lo (f q)) → r.length ≤ 4 ∧ ∀ i ∈ r, i.natAbs ≤ 100 := fun {lo f r} l1 l2 hf hr => by
    have lj := grow_row hr
    rw [List.length_map] at lj
    refine ⟨by omega, fun x hx => ?_⟩
    obtain ⟨j, hj, rfl⟩ := List.mem_iff_getElem.mp hx
    obtain ⟨v, hv, hm⟩ := picks_at (l := rng lo (f (qs[j]'(by omega)))) (i := j) (grow_picks _ _ hr) (by rw [List.getElem?_map, List.getElem?_eq_getElem (by omega)]; rfl)
    rw [List.getElem?_eq_getElem hj] at hv
    cases hv
    have := hf (qs[j]'(by omega)) (List.getElem_mem _)
    unfold rng at hm
    obtain ⟨m, hm1, hm2⟩ := List.mem_map.mp hm
    have := List.mem_range.mp hm1
    omega
  have shT : Shw (rowsT (grow (qs.map fun q => rng 0 q.2))) := (tb_rows (fun r hr => entry (f := fun q => q.2) (by decide) (by decide) (fun q hq => Nat.le_trans (sm.2 q hq) (by decide)) hr) (Nat.le_trans cnt (by decide))).shw
  have shS : Shw (rowsT (grow (qs.map fun q => rng (-1) (q.2 + 1)))) := (tb_rows (fun r hr => entry (f := fun q => q.2 + 1) (by decide) (by decide) (fun q hq => Nat.succ_le_succ (sm.2 q hq)) hr) (Nat.le_trans cnt2 (by decide))).shw
  refine s_par (R := dat K (.list ((names qs).map .str))) (S := dat K (rowsL (grow (qs.map fun q => rng 0 q.2)))) (.cons (De.eq (De.lcA (K := K) (as := qs) (r := fun q => dat K (encQ q)) (Di.tupM (.var hq rfl)) (fun q => .str q.1) (by omega) fun q x Bn Hn _ _ sh hx => ?_) ?_) (.cons (De.eq (De.call (qs, (0 : Int)) (.cons (.var hq rfl) (.one .int)) ⟨sm, (show (-1 : Int) ≤ 0 by decide), (show (0 : Int) ≤ 0 by decide)⟩) (by show rowsL (grow (qs.map fun q => rng 0 ((q.2 : Int) - 0).toNat)) = _; rw [lr])) .nil)) e3.bh fun v4 v5 B4 H4 e4 h4 h5 => ?_
  · obtain ⟨y, z, hy, hz, go⟩ := gTup2 sh (dat_pair hx)
    exact ⟨_, fun Q q => go Q q, rfl, .var hy rfl⟩
  · unfold names
    rw [List.map_map]
    rfl
  have eD4 := eD3.trans L (.of eD3.dl e4)
  have hf := Mo.mo e4.bb hf
  have hq := Mo.mo e4.bb hq
  refine s_skip (Dt.or2 (Dt.reprs (K := K) (De.call qs (.cons (.var hf rfl) .nil) sm) (De.tupleL (.var h5 rfl)) shT) (Dt.same (K := K) (De.callK qs (.cons (.var hf rfl) .nil) rfl (fun _ _ => kw1) sm) (De.tupleL (.var h5 rfl)) (shaped_rows _))) e4.bh fun B5 H5 e5 => ?_
  have hf := Mo.mo e5.bb hf
  have hq := Mo.mo e5.bb hq
  have h4 := Mo.mo e5.bb h4
  have h5 := Mo.mo e5.bb h5
  refine s_skip (Dt.or2 (Dt.reprs (K := K) (De.call qs (.cons (.var hf rfl) .nil) sm) (De.tupleL (De.call (false, names qs) (.cons (.var h4 rfl) .nil) (by show (names qs).length ≤ 4; omega))) (shw_lots nm (by omega))) (Dt.same (K := K) (De.callK qs (.cons (.var hf rfl) .nil) rfl (fun _ _ => kw1) sm) (De.tupleL (De.call (false, names qs) (.cons (.var h4 rfl) .nil) (by show (names qs).length ≤ 4; omega))) (shaped_lots nm (by omega)))) e5.bh fun B6 H6 e6 => ?_
  have hf := Mo.mo e6.bb hf
  have hq := Mo.mo e6.bb hq
  have h4 := Mo.mo e6.bb h4
  have h5 := Mo.mo e6.bb h5
  have lr2 : (qs.map fun q => rng (0 - 1) ((q.2 : Int) - (0 - 1)).toNat) = qs.map fun q => rng (-1) (q.2 + 1) := List.map_congr_left fun q _ => by
    show rng (-1) ((q.2 : Int) - -1).toNat = _
    congr 1 <;> omega
  refine s_skip (Dt.or2 (Dt.reprs (K := K) (De.call qs (.cons (.var hf rfl) .nil) sm) (De.tupleL (De.eq (De.call (qs, (0 - 1 : Int)) (.cons (.var hq rfl) (.cons (De.op (r := rI0 fun i j => V.int (i - j)) .int .int Rv.I0) .nil)) ⟨sm, (show (-1 : Int) ≤ 0 - 1 by decide), (show (0 - 1 : Int) ≤ 0 by decide)⟩) (e := .list ((grow (qs.map fun q => rng (-1) (q.2 + 1))).map rowD)) (by show rowsL (grow (qs.map fun q => rng (0 - 1) ((q.2 : Int) - (0 - 1)).toNat)) = _; rw [lr2]; rfl))) shS)
    (Dt.sameI (K := K) (De.lenT (ds := (grow (qs.map fun q => rng (-1) (q.2 + 1))).map rowD) (De.callK qs (.cons (.var hf rfl) .nil) rfl (fun _ _ => kw1) sm)) (De.lenL (De.eq (De.call (qs, (0 - 1 : Int)) (.cons (.var hq rfl) (.cons (De.op (r := rI0 fun i j => V.int (i - j)) .int .int Rv.I0) .nil)) ⟨sm, (show (-1 : Int) ≤ 0 - 1 by decide), (show (0 - 1 : Int) ≤ 0 by decide)⟩) (e := .list ((grow (qs.map fun q => rng (-1) (q.2 + 1))).map rowD)) (by show rowsL (grow (qs.map fun q => rng (0 - 1) ((q.2 : Int) - (0 - 1)).toNat)) = _; rw [lr2]; rfl))))) e6.bh fun B7 H7 e7 => ?_
  have eD7 := eD4.trans L (.of eD4.dl ((e5.trans e6).trans e7))
  have hf := Mo.mo e7.bb hf
  have hq := Mo.mo e7.bb hq
  have h4 := Mo.mo e7.bb h4
  have h5 := Mo.mo e7.bb h5
  refine s_ifSR (c_def qs eD7.dl rfl (.cons (.var hf rfl) (.cons (.var hq rfl) .nil)) ok fun u B8 H8 e8 hu => ⟨true, dat_bl hu, ?_⟩)
  refine iteF ?_
  dsimp only [tNext]
  have eD8 := eD7.trans L e8
  have hf := Mo.mo e8.bb hf
  have hq := Mo.mo e8.bb hq
  have h4 := Mo.mo e8.bb h4
  have h5 := Mo.mo e8.bb h5
  have gne : (grow (qs.map fun q => rng 0 q.2)).map rowD ≠ [] := fun z => grow_ne _ (fun l hl => by
    obtain ⟨q, hq, rfl⟩ := List.mem_map.mp hl
    intro z
    have := congrArg List.length z
    rw [rng_len] at this
    have := (ok.2.2.1 q hq).1
    simp at *
    omega) (List.map_eq_nil_iff.mp z)
  refine s_forD L eD8 (Di.rng (K := K) (n := 4) .int (by decide)) (fun i σ _ _ => ∃ v8 v9 v10, σ = [some (.ref a), some (.ref d), some v2, some v3, some v4, some v5, none, none, v8, v9, v10]) (fun _ _ _ => ⟨_, _, _, rfl⟩) ?_ ?_
  · rintro B9 i R v σ' Bc Hc Bn Hn sB hR eC s1 ⟨v8, v9, v10, rfl⟩ e hx
    have eN := eC.trans L e
    have bN := (sB.trans s1).trans e.bb
    have h4 := Mo.mo bN h4
    refine s_raw (c_some (K := K) (ns := names qs) (i4 := 4) (i6 := 6) (i1 := 1) eN.dl h4 (by omega) rfl rfl (by decide) (by show 6 < 11; decide) fun lot vl BL HL subL eL hl => ?_)
    have eL1 := eN.trans L eL
    have h4 := Mo.mo eL.bb h4
    refine s_raw (c_some (K := K) (ns := names qs) (i4 := 4) (i6 := 6) (i1 := 1) eL1.dl h4 (by omega) rfl rfl (by decide) (by show 6 < 11; decide) fun other vo BO HO subO eO ho => ?_)
    have eO1 := eL1.trans L eO
    have bO := (bN.trans eL.bb).trans eO.bb
    have hf := Mo.mo bO hf
    have hq := Mo.mo bO hq
    have h5 := Mo.mo bO h5
    have hl := Mo.mo eO.bb hl
    have lotNm : ∀ z ∈ lot, Nm z := fun z hz => nm z (subL.subset hz)
    have othNm : ∀ z ∈ other, Nm z := fun z hz => nm z (subO.subset hz)
    have lot4 : lot.length ≤ 4 := Nat.le_trans subL.length_le (by omega)
    refine s_ifR ?_
    refine ⟨_, rfl, _, rfl, _, rfl, c_ofL (K := K) eO1.dl rfl (.var h5 rfl) gne (by rw [List.length_map]; omega) fun x vr BR HR hx eR hr => ?_⟩
    obtain ⟨r, hrm, rfl⟩ := List.mem_map.mp hx
    have hf := Mo.mo eR.bb hf
    have hq := Mo.mo eR.bb hq
    have hl := Mo.mo eR.bb hl
    have ho := Mo.mo eR.bb ho
    have eR1 := eO1.trans L eR
    refine ⟨BR, (qs, lot, r), eR1.bh, ⟨_, _, rfl, hf, _, _, rfl, hq, _, _, rfl, hl, _, _, rfl, hr, rfl⟩, ⟨sm, nm, (sub_filter subL ok.2.2.2.1).symm, hrm⟩, fun u BS HS eS hu => ⟨true, dat_bl hu, ?_⟩⟩
    refine iteF ?_
    refine De.call (lot, other) (.cons (.var (Mo.mo eS.bb hl) rfl) (.cons (.var (Mo.mo eS.bb ho) rfl) .nil)) ⟨lot4, lotNm, othNm⟩ BS HS (Same.refl _) eS.bh _ fun u2 BT HT eT hu2 => ⟨true, dat_bl hu2, ?_⟩
    refine iteF ?_
    exact ⟨BT, eR1.trans L (.of eR1.dl (eS.trans eT)), (((((s1.trans e.bb).trans eL.bb).trans eO.bb).trans eR.bb).trans eS.bb).trans eT.bb, _, _, _, rfl⟩
  rintro σ' B9 H9 e9 s9 ⟨v8, v9, v10, rfl⟩
  have hf := Mo.mo s9 hf
  have hq := Mo.mo s9 hq
  have h4 := Mo.mo s9 h4
  have none4 : ([] : List Str).length ≤ 4 := Nat.zero_le _
  have noneN : ∀ z ∈ ([] : List Str), Nm z := fun z h => absurd h (List.not_mem_nil)
  have pairs : Shw (qsD qs) := by
    refine (((TbAll.of (n := 1) (W := 22) (es := qs.map encQ) fun e he => ?_).tuple).more (Nat.le_refl _) (show _ ≤ 8000 from ?_)).shw
    · obtain ⟨q, hq, rfl⟩ := List.mem_map.mp he
      have q4 := sm.2 q hq
      exact (TbAll.cons (tb_nm (nm q.1 (List.mem_map.mpr ⟨q, hq, rfl⟩))) (.cons (tb_int (Nat.lt_of_le_of_lt (show ((q.2 : Int)).natAbs ≤ 100 by omega) (Nat.lt_of_lt_of_le (show 100 < 2 ^ 7 by decide) (Nat.pow_le_pow_right (by decide) (by decide))))) .nil)).tuple.more (Nat.le_refl _) (by decide)
    · rw [List.length_map]
      omega
  refine s_ret (De.and2 (De.call (names qs, []) (.cons (De.tupleL (.var h4 rfl)) (.cons (De.tupD (K := K) .nil (by show 0 ≤ sizeLine; decide)) .nil)) ⟨by show (names qs).length ≤ 4; omega, nm, noneN⟩) (De.and2 (De.call ([], names qs) (.cons (De.tupD (K := K) .nil (by show 0 ≤ sizeLine; decide)) (.cons (De.tupleL (.var h4 rfl)) .nil)) ⟨none4, noneN, nm⟩) (De.reprs (K := K) (fldQ K_Form (.var hf rfl)) (.var hq rfl) pairs))) e9.bh fun v B H e h => ?_
  rw [dat_bl h]
  exact k _
end
end K04

set_option Elab.async false
set_option linter.all false
set_option maxRecDepth 100000
set_option maxHeartbeats 4000000
namespace K04
open PySem PySem.Spec PyProof.Rows L2 Wb Wv Fm
theorem ini_NoName {P : Program} {w : World} {K : PySem.W.Frag} {mg : Str → Option Value} {base : Heap} {C fI : Addr} {fd : FuncData} (F : Fun K "__init__" "NoName.__init__" (inClass (topS 2) 0) fI fd) (T : ErrC K C) (no : PySem.W.findIn K (.ref C) "name" = some none) : FnOk P w K mg base CX0 1 fI fd ["self", "name"] (spIni C "name") := by
  refine F.ok (N := ["self", "name"]) ⟨rfl, rfl, rfl, by decide +kernel, rfl, by decide +kernel, by decide +kernel⟩ (fun vs H Q E h => ?_) (fun cdv A outer s H vs Q E hr h => ?_)
  · obtain ⟨a, v, rfl, _⟩ := h
    rfl
  · obtain ⟨a, v, rfl, ha, q⟩ := h
    refine ⟨_, pss_one (ps_ini (pv 0) (pv 1)), ?_⟩
    exact ⟨_, rfl, _, rfl, a, C, rfl, T, no, ha, q⟩
theorem inic_Form {P : Program} {w : World} {K : PySem.W.Frag} {mg : Str → Option Value} {base : Heap} {C fI : Addr} {fd : FuncData} (F : Fun K "__init__" "Form.__init__" (inClass (topS 6) 0) fI fd) (c : Cls K C) (na0 : NoAttr K C "questions") : FnOk P w K mg base CX0 1 fI fd ["self", "questions"] (spIns C ["questions"]) := by
  refine F.ok (N := ["self", "questions"]) ⟨rfl, rfl, rfl, by decide +kernel, rfl, by decide +kernel, by decide +kernel⟩ (fun vs H Q E h => ?_) (fun cdv A outer s H vs Q E hr h => ?_)
  · obtain ⟨x, dx, us, rfl, hl, _⟩ := h
    rw [List.length_cons, hl]
    rfl
  · obtain ⟨x, dx, us, rfl, hl, ha, q⟩ := h
    match us, hl with
    | [u0], _ =>
      refine ⟨_, (pss_one (ps_fld (pv 0) (pv 1) (by rfl))), ?_⟩
      refine ⟨_, rfl, _, rfl, x, C, dx, _, rfl, ha, c, na0, by simp [putF], q⟩
end K04
namespace K04
open PySem PySem.Spec PyProof.Rows L2 Wb Wv Fm
set_option maxHeartbeats 4000000 in
theorem all_mk {l : PySem.W.OpenLaw} {w : World} {K : PySem.W.Frag} {h : Heap} {mg : Str → Option Value} {fa C_BlankError C_NoName f_NoName C_Form f_Form g_tuplesOver g_namesOf g_placeOf g_answersOf g_truths g_allSheets g_lotsWithin g_lots g_withoutNames g_sheetOf g_lotOf g_truthsBehind g_source g_any g_of g_lname g_lnames g_lform g_lrows g_subsets g_told g_placesR g_sheetsR g_lotsR g_law : Addr} 
    (X : K.In h) (G : h.Ns mainGlobals mg) (hfa : mg "law" = some (.ref fa))
    (aC_BlankError : PySem.W.nsIn K mainGlobals "BlankError" = some (some (.ref C_BlankError)))
    (aC_NoName : PySem.W.nsIn K mainGlobals "NoName" = some (some (.ref C_NoName)))
    (hn : PySem.W.specialIn K (.builtin "object.__class__") "__get__" = some (some (.builtin "getset_descriptor.__get__")))
    (ht : PySem.W.takesIn K (.builtin "object.__class__") = some true)
    (e_BlankError : EF K C_BlankError topB "Exception.__new__")
    (e_NoName : EF K C_NoName topK "LookupError.__new__")
    (a_NoName : PySem.W.findIn K (.ref C_NoName) "__init__" = some (some (.ref f_NoName)))
    (t_NoName : PySem.W.typeIn K (.ref f_NoName) = some (.type "function"))
    (no_NoName : PySem.W.findIn K (.ref C_NoName) "name" = some none)
    (l_NoName : FnF K "__init__" "NoName.__init__" (inClass (topS 2) 0) f_NoName)
    (aC_Form : PySem.W.nsIn K mainGlobals "Form" = some (some (.ref C_Form)))
    (pg_Form : PySem.W.plainGet K C_Form Str.empty = true)
    (hd_Form : PySem.W.hasDictIn K C_Form = true)
    (po_Form : PySem.W.plainOver K C_Form = true)
    (sa_Form : PySem.W.findIn K (.ref C_Form) "__setattr__" = some (some (.builtin "object.__setattr__")))
    (mk_Form : PySem.W.makesIn K C_Form = true)
    (kc_Form : PySem.W.keepIn K (.ref C_Form) = true)
    (a_Form : PySem.W.findIn K (.ref C_Form) "__init__" = some (some (.ref f_Form)))
    (fn_Form : PySem.W.isFn K (.ref f_Form) = true)
    (na0_Form : PySem.W.findIn K (.ref C_Form) "questions" = some none)
    (l_Form : FnF K "__init__" "Form.__init__" (inClass (topS 6) 0) f_Form)
    (z_tuplesOver : PySem.W.nsIn K mainGlobals "tuples_over" = some (some (.ref g_tuplesOver)))
    (y_tuplesOver : FnF K "tuples_over" "tuples_over" s_tuplesOver g_tuplesOver)
    (z_namesOf : PySem.W.nsIn K mainGlobals "names_of" = some (some (.ref g_namesOf)))
    (y_namesOf : FnF K "names_of" "names_of" s_namesOf g_namesOf)
    (z_placeOf : PySem.W.nsIn K mainGlobals "place_of" = some (some (.ref g_placeOf)))
    (y_placeOf : FnF K "place_of" "place_of" s_placeOf g_placeOf)
    (z_answersOf : PySem.W.nsIn K mainGlobals "answers_of" = some (some (.ref g_answersOf)))
    (y_answersOf : FnF K "answers_of" "answers_of" s_answersOf g_answersOf)
    (z_truths : PySem.W.nsIn K mainGlobals "truths" = some (some (.ref g_truths)))
    (y_truths : FnF K "truths" "truths" s_truths g_truths)
    (z_allSheets : PySem.W.nsIn K mainGlobals "all_sheets" = some (some (.ref g_allSheets)))
    (y_allSheets : FnF K "all_sheets" "all_sheets" s_allSheets g_allSheets)
    (z_lotsWithin : PySem.W.nsIn K mainGlobals "lots_within" = some (some (.ref g_lotsWithin)))
    (y_lotsWithin : FnF K "lots_within" "lots_within" s_lotsWithin g_lotsWithin)
    (z_lots : PySem.W.nsIn K mainGlobals "lots" = some (some (.ref g_lots)))
    (y_lots : FnF K "lots" "lots" s_lots g_lots)
    (z_withoutNames : PySem.W.nsIn K mainGlobals "without_names" = some (some (.ref g_withoutNames)))
    (y_withoutNames : FnF K "without_names" "without_names" s_withoutNames g_withoutNames)
    (z_sheetOf : PySem.W.nsIn K mainGlobals "sheet_of" = some (some (.ref g_sheetOf)))
    (y_sheetOf : FnF K "sheet_of" "sheet_of" s_sheetOf g_sheetOf)
    (z_lotOf : PySem.W.nsIn K mainGlobals "lot_of" = some (some (.ref g_lotOf)))
    (y_lotOf : FnF K "lot_of" "lot_of" s_lotOf g_lotOf)
    (z_truthsBehind : PySem.W.nsIn K mainGlobals "truths_behind" = some (some (.ref g_truthsBehind)))
    (y_truthsBehind : FnF K "truths_behind" "truths_behind" s_truthsBehind g_truthsBehind)
    (z_source : PySem.W.nsIn K mainGlobals "_law_source" = some (some (.ref g_source)))
    (y_source : FnF K "_law_source" "_law_source" s_source g_source)
    (z_any : PySem.W.nsIn K mainGlobals "_law_any" = some (some (.ref g_any)))
    (y_any : FnF K "_law_any" "_law_any" s_any g_any)
    (z_of : PySem.W.nsIn K mainGlobals "_law_of" = some (some (.ref g_of)))
    (y_of : FnF K "_law_of" "_law_of" s_of g_of)
    (z_lname : PySem.W.nsIn K mainGlobals "_law_name" = some (some (.ref g_lname)))
    (y_lname : FnF K "_law_name" "_law_name" s_lname g_lname)
    (z_lnames : PySem.W.nsIn K mainGlobals "_law_names" = some (some (.ref g_lnames)))
    (y_lnames : FnF K "_law_names" "_law_names" s_lnames g_lnames)
    (z_lform : PySem.W.nsIn K mainGlobals "_law_form" = some (some (.ref g_lform)))
    (y_lform : FnF K "_law_form" "_law_form" s_lform g_lform)
    (z_lrows : PySem.W.nsIn K mainGlobals "_law_rows" = some (some (.ref g_lrows)))
    (y_lrows : FnF K "_law_rows" "_law_rows" s_lrows g_lrows)
    (z_subsets : PySem.W.nsIn K mainGlobals "_law_subsets" = some (some (.ref g_subsets)))
    (y_subsets : FnF K "_law_subsets" "_law_subsets" s_subsets g_subsets)
    (z_told : PySem.W.nsIn K mainGlobals "_law_told" = some (some (.ref g_told)))
    (y_told : FnF K "_law_told" "_law_told" s_told g_told)
    (z_placesR : PySem.W.nsIn K mainGlobals "_law_places_right" = some (some (.ref g_placesR)))
    (y_placesR : FnF K "_law_places_right" "_law_places_right" s_placesR g_placesR)
    (z_sheetsR : PySem.W.nsIn K mainGlobals "_law_sheets_right" = some (some (.ref g_sheetsR)))
    (y_sheetsR : FnF K "_law_sheets_right" "_law_sheets_right" s_sheetsR g_sheetsR)
    (z_lotsR : PySem.W.nsIn K mainGlobals "_law_lots_right" = some (some (.ref g_lotsR)))
    (y_lotsR : FnF K "_law_lots_right" "_law_lots_right" s_lotsR g_lotsR)
    (z_law : PySem.W.nsIn K mainGlobals "law" = some (some (.ref g_law)))
    (y_law : FnF K "law" "law" s_law g_law)
    (o_range : PySem.W.nsIn K mainGlobals "range" = some none)
    (o_tuple : PySem.W.nsIn K mainGlobals "tuple" = some none)
    (o_enumerate : PySem.W.nsIn K mainGlobals "enumerate" = some none)
    (o_sorted : PySem.W.nsIn K mainGlobals "sorted" = some none)
    (o_zip : PySem.W.nsIn K mainGlobals "zip" = some none)
    (o_list : PySem.W.nsIn K mainGlobals "list" = some none)
    (o_KeyError : PySem.W.nsIn K mainGlobals "KeyError" = some none)
    (o_isinstance : PySem.W.nsIn K mainGlobals "isinstance" = some none)
    (o_repr : PySem.W.nsIn K mainGlobals "repr" = some none)
    (o_len : PySem.W.nsIn K mainGlobals "len" = some none)
    (o_int : PySem.W.nsIn K mainGlobals "int" = some none)
    (o_abs : PySem.W.nsIn K mainGlobals "abs" = some none)
    (ne_NB : C_NoName ≠ C_BlankError)
    : ∀ base : Heap, K.In base → base.Ns mainGlobals mg → ∃ fd : FuncData, (∀ (s : Shared) (v : Value), BindsTo s fd ⟨[v], []⟩ [("script", v)]) ∧ FnG l.prog w K mg base CX0 7 fa fd ["script"] (Wb.spLaw K) := by
  have T_BlankError : ErrC K C_BlankError := e_BlankError.err PySem.F.excBase_Exception PySem.F.store_Exception ⟨by decide, by decide, by decide⟩ rfl hn ht
  have T_NoName : ErrC K C_NoName := e_NoName.err PySem.F.excBase_LookupError PySem.F.storeKeyError ⟨by decide, by decide, by decide⟩ rfl hn ht
  obtain ⟨_, _, _, _, _, _, F_NoName⟩ := l_NoName.fn
  have b_NoName := F_NoName.binds (ps := ["self", "name"]) fun _ _ _ _ _ _ us hl => match us, hl with | [_, _], _ => rfl
  obtain ⟨_, _, _, _, _, _, F_Form⟩ := l_Form.fn
  have b_Form := F_Form.binds (ps := ["self", "questions"]) fun _ _ _ _ _ _ us hl => match us, hl with | [_, _], _ => rfl
  have cls_Form : Cls K C_Form := ⟨pg_Form, hd_Form, po_Form, sa_Form⟩
  have D_tuplesOver : Def K mg "tuples_over" s_tuplesOver ["sizes"] := FnF.def_ X G z_tuplesOver y_tuplesOver (fun _ _ _ _ _ _ us hl => match us, hl with | [_], _ => rfl)
  have D_namesOf : Def K mg "names_of" s_namesOf ["form"] := FnF.def_ X G z_namesOf y_namesOf (fun _ _ _ _ _ _ us hl => match us, hl with | [_], _ => rfl)
  have D_placeOf : Def K mg "place_of" s_placeOf ["form", "name"] := FnF.def_ X G z_placeOf y_placeOf (fun _ _ _ _ _ _ us hl => match us, hl with | [_, _], _ => rfl)
  have D_answersOf : Def K mg "answers_of" s_answersOf ["form", "name"] := FnF.def_ X G z_answersOf y_answersOf (fun _ _ _ _ _ _ us hl => match us, hl with | [_, _], _ => rfl)
  have D_truths : Def K mg "truths" s_truths ["form"] := FnF.def_ X G z_truths y_truths (fun _ _ _ _ _ _ us hl => match us, hl with | [_], _ => rfl)
  have D_allSheets : Def K mg "all_sheets" s_allSheets ["form"] := FnF.def_ X G z_allSheets y_allSheets (fun _ _ _ _ _ _ us hl => match us, hl with | [_], _ => rfl)
  have D_lotsWithin : Def K mg "lots_within" s_lotsWithin ["lot"] := FnF.def_ X G z_lotsWithin y_lotsWithin (fun _ _ _ _ _ _ us hl => match us, hl with | [_], _ => rfl)
  have D_lots : Def K mg "lots" s_lots ["form"] := FnF.def_ X G z_lots y_lots (fun _ _ _ _ _ _ us hl => match us, hl with | [_], _ => rfl)
  have D_withoutNames : Def K mg "without_names" s_withoutNames ["lot", "names"] := FnF.def_ X G z_withoutNames y_withoutNames (fun _ _ _ _ _ _ us hl => match us, hl with | [_, _], _ => rfl)
  have D_sheetOf : Def K mg "sheet_of" s_sheetOf ["form", "lot", "truth"] := FnF.def_ X G z_sheetOf y_sheetOf (fun _ _ _ _ _ _ us hl => match us, hl with | [_, _, _], _ => rfl)
  have D_lotOf : Def K mg "lot_of" s_lotOf ["form", "sheet"] := FnF.def_ X G z_lotOf y_lotOf (fun _ _ _ _ _ _ us hl => match us, hl with | [_, _], _ => rfl)
  have D_truthsBehind : Def K mg "truths_behind" s_truthsBehind ["form", "sheet"] := FnF.def_ X G z_truthsBehind y_truthsBehind (fun _ _ _ _ _ _ us hl => match us, hl with | [_, _], _ => rfl)
  have D_source : Def K mg "_law_source" s_source ["script"] := FnF.def_ X G z_source y_source (fun _ _ _ _ _ _ us hl => match us, hl with | [_], _ => rfl)
  have D_any : Def K mg "_law_any" s_any ["deal", "bound"] := FnF.def_ X G z_any y_any (fun _ _ _ _ _ _ us hl => match us, hl with | [_, _], _ => rfl)
  have D_of : Def K mg "_law_of" s_of ["deal", "some"] := FnF.def_ X G z_of y_of (fun _ _ _ _ _ _ us hl => match us, hl with | [_, _], _ => rfl)
  have D_lname : Def K mg "_law_name" s_lname ["deal"] := FnF.def_ X G z_lname y_lname (fun _ _ _ _ _ _ us hl => match us, hl with | [_], _ => rfl)
  have D_lnames : Def K mg "_law_names" s_lnames ["deal", "many"] := FnF.def_ X G z_lnames y_lnames (fun _ _ _ _ _ _ us hl => match us, hl with | [_, _], _ => rfl)
  have D_lform : Def K mg "_law_form" s_lform ["deal"] := FnF.def_ X G z_lform y_lform (fun _ _ _ _ _ _ us hl => match us, hl with | [_], _ => rfl)
  have D_lrows : Def K mg "_law_rows" s_lrows ["questions", "least"] := FnF.def_ X G z_lrows y_lrows (fun _ _ _ _ _ _ us hl => match us, hl with | [_, _], _ => rfl)
  have D_subsets : Def K mg "_law_subsets" s_subsets ["names"] := FnF.def_ X G z_subsets y_subsets (fun _ _ _ _ _ _ us hl => match us, hl with | [_], _ => rfl)
  have D_told : Def K mg "_law_told" s_told ["form", "name", "way"] := FnF.def_ X G z_told y_told (fun _ _ _ _ _ _ us hl => match us, hl with | [_, _, _], _ => rfl)
  have D_placesR : Def K mg "_law_places_right" s_placesR ["deal", "form", "questions"] := FnF.def_ X G z_placesR y_placesR (fun _ _ _ _ _ _ us hl => match us, hl with | [_, _, _], _ => rfl)
  have D_sheetsR : Def K mg "_law_sheets_right" s_sheetsR ["form", "questions", "lot", "truth"] := FnF.def_ X G z_sheetsR y_sheetsR (fun _ _ _ _ _ _ us hl => match us, hl with | [_, _, _, _], _ => rfl)
  have D_lotsR : Def K mg "_law_lots_right" s_lotsR ["lot", "names"] := FnF.def_ X G z_lotsR y_lotsR (fun _ _ _ _ _ _ us hl => match us, hl with | [_, _], _ => rfl)
  have D_law : Def K mg "law" s_law ["script"] := FnF.def_ X G z_law y_law (fun _ _ _ _ _ _ us hl => match us, hl with | [_], _ => rfl)
  have n_range := PySem.W.mg_none_of X G o_range
  have n_tuple := PySem.W.mg_none_of X G o_tuple
  have n_enumerate := PySem.W.mg_none_of X G o_enumerate
  have n_sorted := PySem.W.mg_none_of X G o_sorted
  have n_zip := PySem.W.mg_none_of X G o_zip
  have n_list := PySem.W.mg_none_of X G o_list
  have n_KeyError := PySem.W.mg_none_of X G o_KeyError
  have n_isinstance := PySem.W.mg_none_of X G o_isinstance
  have n_repr := PySem.W.mg_none_of X G o_repr
  have n_len := PySem.W.mg_none_of X G o_len
  have n_int := PySem.W.mg_none_of X G o_int
  have n_abs := PySem.W.mg_none_of X G o_abs
  intro base _ _
  have Z_BlankError : ErrB K mg "BlankError" C_BlankError topB := ⟨T_BlankError, PySem.W.mg_of X G aC_BlankError, e_BlankError.chain⟩
  have Z_NoName : Err l.prog w K mg base "NoName" "name" C_NoName topK := ⟨T_NoName, PySem.W.mg_of X G aC_NoName, e_NoName.chain, no_NoName, f_NoName, _, a_NoName, t_NoName, ini_NoName F_NoName T_NoName no_NoName, b_NoName⟩
  have nas_Form : ∀ f ∈ [("questions" : Str)], NoAttr K C_Form f := fun f hf => by
    simp only [List.mem_cons, List.not_mem_nil, or_false] at hf
    rcases hf with rfl
    · exact na0_Form
  have K_Form : CalC l.prog w K mg base "Form" C_Form ["questions"] := ⟨cls_Form, PySem.W.mg_of X G aC_Form, nas_Form, f_Form, _, ⟨mk_Form, a_Form, fn_Form, kc_Form⟩, inic_Form F_Form cls_Form na0_Form, b_Form⟩
  have C_tuplesOver := ok_tuplesOver (P := l.prog) (w := w) (base := base) D_tuplesOver n_range n_tuple
  have C_namesOf := ok_namesOf (P := l.prog) (w := w) (base := base) D_namesOf n_tuple K_Form
  have C_placeOf := ok_placeOf (P := l.prog) (w := w) (base := base) D_placeOf n_enumerate Z_NoName K_Form
  have C_answersOf := ok_answersOf (P := l.prog) (w := w) (base := base) D_answersOf C_placeOf K_Form
  have C_truths := ok_truths (P := l.prog) (w := w) (base := base) D_truths C_tuplesOver K_Form
  have C_allSheets := ok_allSheets (P := l.prog) (w := w) (base := base) D_allSheets C_tuplesOver n_tuple K_Form
  have C_lotsWithin := ok_lotsWithin (P := l.prog) (w := w) (base := base) D_lotsWithin n_sorted n_tuple
  have C_lots := ok_lots (P := l.prog) (w := w) (base := base) D_lots C_lotsWithin C_namesOf K_Form
  have C_withoutNames := ok_withoutNames (P := l.prog) (w := w) (base := base) D_withoutNames n_tuple
  have C_sheetOf := ok_sheetOf (P := l.prog) (w := w) (base := base) D_sheetOf C_namesOf n_zip n_tuple
  have C_lotOf := ok_lotOf (P := l.prog) (w := w) (base := base) D_lotOf C_namesOf n_zip n_tuple
  have C_truthsBehind := ok_truthsBehind (P := l.prog) (w := w) (base := base) D_truthsBehind n_zip n_range n_list n_tuple K_Form
  have C_source := ok_source (P := l.prog) (w := w) (base := base) D_source n_int n_abs
  have C_any := ok_any (P := l.prog) (w := w) (base := base) D_any n_int
  have C_of := ok_of (P := l.prog) (w := w) (base := base) D_of C_any n_len
  have C_lname := ok_lname (P := l.prog) (w := w) (base := base) D_lname C_any C_of n_range
  have C_lnames := ok_lnames (P := l.prog) (w := w) (base := base) D_lnames n_range C_lname n_sorted
  have C_lform := ok_lform (P := l.prog) (w := w) (base := base) D_lform C_lnames C_of n_tuple
  have C_lrows := ok_lrows (P := l.prog) (w := w) (base := base) D_lrows n_range
  have C_subsets := ok_subsets (P := l.prog) (w := w) (base := base) D_subsets n_sorted
  have C_told := ok_told (P := l.prog) (w := w) (base := base) D_told C_placeOf C_answersOf n_KeyError n_isinstance Z_BlankError Z_NoName ne_NB
  have C_lotsR := ok_lotsR (P := l.prog) (w := w) (base := base) D_lotsR C_lotsWithin n_repr C_subsets n_tuple C_withoutNames
  have C_sheetsR := ok_sheetsR (P := l.prog) (w := w) (base := base) D_sheetsR n_range n_len n_tuple C_sheetOf n_repr C_lotOf C_lrows C_truthsBehind
  have C_placesR := ok_placesR (P := l.prog) (w := w) (base := base) D_placesR C_namesOf n_repr n_tuple n_range n_len C_placeOf C_answersOf C_lname C_told
  have C_law := ok_law (P := l.prog) (w := w) (base := base) D_law C_source C_lform K_Form C_lrows C_truths n_repr n_tuple C_lots C_subsets C_allSheets n_len C_placesR n_range C_any C_sheetsR C_of C_lotsR
  exact C_law.law hfa (fun _ _ _ _ _ _ s u => .of_eq rfl)
end K04
open PySem PySem.W PyProof.Rows in
set_option maxRecDepth 100000 in
set_option maxHeartbeats 0 in
theorem PySem.Challenge.cw_whyblank_k04_whole_truths_lots_and_sheet_holds : PySem.Challenge.rw_whyblank_k04_whole_truths_lots_and_sheet.Holds := by
  w_on; o_law; k_head; (case hw => w_witness2)
  k_fill
  refine Wb.walk2 (l := PySem.Challenge.rw_whyblank_k04_whole_truths_lots_and_sheet) (k := 7) ⟨rfl, by decide, by decide⟩ rfl rfl (fun w h Y => PySem.W.kIn_of Y) ?F
  case F =>
    intro w mg fa h KX G hmg
    refine' K04.all_mk KX G hmg ?aC_BlankError ?aC_NoName ?hn ?ht (Wb.EF.mk (Wb.ClsRow.mk2 ?r_BlankError) ?sa_BlankError ?ga_BlankError ?gg_BlankError ?ex_BlankError ?ty_BlankError ?hd_BlankError ?kp_BlankError ?hc_BlankError ?hm_BlankError) (Wb.EF.mk (Wb.ClsRow.mk2 ?r_NoName) ?sa_NoName ?ga_NoName ?gg_NoName ?ex_NoName ?ty_NoName ?hd_NoName ?kp_NoName ?hc_NoName ?hm_NoName) ?a_NoName ?t_NoName ?no_NoName (Wb.FnF.mk2 ?li_NoName ?ui_NoName ?vi_NoName) ?aC_Form ?pg_Form ?hd_Form ?po_Form ?sa_Form ?mk_Form ?kc_Form ?a_Form ?fn_Form ?na0_Form (Wb.FnF.mk2 ?li_Form ?ui_Form ?vi_Form) ?z_tuplesOver (Wb.FnF.mk2 ?l_tuplesOver ?u_tuplesOver ?v_tuplesOver) ?z_namesOf (Wb.FnF.mk2 ?l_namesOf ?u_namesOf ?v_namesOf) ?z_placeOf (Wb.FnF.mk2 ?l_placeOf ?u_placeOf ?v_placeOf) ?z_answersOf (Wb.FnF.mk2 ?l_answersOf ?u_answersOf ?v_answersOf) ?z_truths (Wb.FnF.mk2 ?l_truths ?u_truths ?v_truths) ?z_allSheets (Wb.FnF.mk2 ?l_allSheets ?u_allSheets ?v_allSheets) ?z_lotsWithin (Wb.FnF.mk2 ?l_lotsWithin ?u_lotsWithin ?v_lotsWithin) ?z_lots (Wb.FnF.mk2 ?l_lots ?u_lots ?v_lots) ?z_withoutNames (Wb.FnF.mk2 ?l_withoutNames ?u_withoutNames ?v_withoutNames) ?z_sheetOf (Wb.FnF.mk2 ?l_sheetOf ?u_sheetOf ?v_sheetOf) ?z_lotOf (Wb.FnF.mk2 ?l_lotOf ?u_lotOf ?v_lotOf) ?z_truthsBehind (Wb.FnF.mk2 ?l_truthsBehind ?u_truthsBehind ?v_truthsBehind) ?z_source (Wb.FnF.mk2 ?l_source ?u_source ?v_source) ?z_any (Wb.FnF.mk2 ?l_any ?u_any ?v_any) ?z_of (Wb.FnF.mk2 ?l_of ?u_of ?v_of) ?z_lname (Wb.FnF.mk2 ?l_lname ?u_lname ?v_lname) ?z_lnames (Wb.FnF.mk2 ?l_lnames ?u_lnames ?v_lnames) ?z_lform (Wb.FnF.mk2 ?l_lform ?u_lform ?v_lform) ?z_lrows (Wb.FnF.mk2 ?l_lrows ?u_lrows ?v_lrows) ?z_subsets (Wb.FnF.mk2 ?l_subsets ?u_subsets ?v_subsets) ?z_told (Wb.FnF.mk2 ?l_told ?u_told ?v_told) ?z_placesR (Wb.FnF.mk2 ?l_placesR ?u_placesR ?v_placesR) ?z_sheetsR (Wb.FnF.mk2 ?l_sheetsR ?u_sheetsR ?v_sheetsR) ?z_lotsR (Wb.FnF.mk2 ?l_lotsR ?u_lotsR ?v_lotsR) ?z_law (Wb.FnF.mk2 ?l_law ?u_law ?v_law) ?o_range ?o_tuple ?o_enumerate ?o_sorted ?o_zip ?o_list ?o_KeyError ?o_isinstance ?o_repr ?o_len ?o_int ?o_abs ?ne_NB
    (case aC_BlankError => k_is)
    (case aC_NoName => k_is)
    (case hn => k_is)
    (case ht => k_is)
    (case r_BlankError => k_is)
    (case sa_BlankError => k_is)
    (case ga_BlankError => k_is)
    (case gg_BlankError => k_is)
    (case ex_BlankError => k_is)
    (case ty_BlankError => k_is)
    (case hd_BlankError => k_is)
    (case kp_BlankError => k_is)
    (case hc_BlankError => k_is)
    (case hm_BlankError => k_is)
    (case r_NoName => k_is)
    (case sa_NoName => k_is)
    (case ga_NoName => k_is)
    (case gg_NoName => k_is)
    (case ex_NoName => k_is)
    (case ty_NoName => k_is)
    (case hd_NoName => k_is)
    (case kp_NoName => k_is)
    (case hc_NoName => k_is)
    (case hm_NoName => k_is)
    (case a_NoName => k_is)
    (case t_NoName => k_is)
    (case no_NoName => k_is)
    (case li_NoName => k_is)
    (case ui_NoName => k_is)
    (case vi_NoName => k_is)
    (case aC_Form => k_is)
    (case pg_Form => k_is)
    (case hd_Form => k_is)
    (case po_Form => k_is)
    (case sa_Form => k_is)
    (case mk_Form => k_is)
    (case kc_Form => k_is)
    (case a_Form => k_is)
    (case fn_Form => k_is)
    (case na0_Form => k_is)
    (case li_Form => k_is)
    (case ui_Form => k_is)
    (case vi_Form => k_is)
    (case z_tuplesOver => k_is)
    (case l_tuplesOver => k_is)
    (case u_tuplesOver => k_is)
    (case v_tuplesOver => k_is)
    (case z_namesOf => k_is)
    (case l_namesOf => k_is)
    (case u_namesOf => k_is)
    (case v_namesOf => k_is)
    (case z_placeOf => k_is)
    (case l_placeOf => k_is)
    (case u_placeOf => k_is)
    (case v_placeOf => k_is)
    (case z_answersOf => k_is)
    (case l_answersOf => k_is)
    (case u_answersOf => k_is)
    (case v_answersOf => k_is)
    (case z_truths => k_is)
    (case l_truths => k_is)
    (case u_truths => k_is)
    (case v_truths => k_is)
    (case z_allSheets => k_is)
    (case l_allSheets => k_is)
    (case u_allSheets => k_is)
    (case v_allSheets => k_is)
    (case z_lotsWithin => k_is)
    (case l_lotsWithin => k_is)
    (case u_lotsWithin => k_is)
    (case v_lotsWithin => k_is)
    (case z_lots => k_is)
    (case l_lots => k_is)
    (case u_lots => k_is)
    (case v_lots => k_is)
    (case z_withoutNames => k_is)
    (case l_withoutNames => k_is)
    (case u_withoutNames => k_is)
    (case v_withoutNames => k_is)
    (case z_sheetOf => k_is)
    (case l_sheetOf => k_is)
    (case u_sheetOf => k_is)
    (case v_sheetOf => k_is)
    (case z_lotOf => k_is)
    (case l_lotOf => k_is)
    (case u_lotOf => k_is)
    (case v_lotOf => k_is)
    (case z_truthsBehind => k_is)
    (case l_truthsBehind => k_is)
    (case u_truthsBehind => k_is)
    (case v_truthsBehind => k_is)
    (case z_source => k_is)
    (case l_source => k_is)
    (case u_source => k_is)
    (case v_source => k_is)
    (case z_any => k_is)
    (case l_any => k_is)
    (case u_any => k_is)
    (case v_any => k_is)
    (case z_of => k_is)
    (case l_of => k_is)
    (case u_of => k_is)
    (case v_of => k_is)
    (case z_lname => k_is)
    (case l_lname => k_is)
    (case u_lname => k_is)
    (case v_lname => k_is)
    (case z_lnames => k_is)
    (case l_lnames => k_is)
    (case u_lnames => k_is)
    (case v_lnames => k_is)
    (case z_lform => k_is)
    (case l_lform => k_is)
    (case u_lform => k_is)
    (case v_lform => k_is)
    (case z_lrows => k_is)
    (case l_lrows => k_is)
    (case u_lrows => k_is)
    (case v_lrows => k_is)
    (case z_subsets => k_is)
    (case l_subsets => k_is)
    (case u_subsets => k_is)
    (case v_subsets => k_is)
    (case z_told => k_is)
    (case l_told => k_is)
    (case u_told => k_is)
    (case v_told => k_is)
    (case z_placesR => k_is)
    (case l_placesR => k_is)
    (case u_placesR => k_is)
    (case v_placesR => k_is)
    (case z_sheetsR => k_is)
    (case l_sheetsR => k_is)
    (case u_sheetsR => k_is)
    (case v_sheetsR => k_is)
    (case z_lotsR => k_is)
    (case l_lotsR => k_is)
    (case u_lotsR => k_is)
    (case v_lotsR => k_is)
    (case z_law => k_is)
    (case l_law => k_is)
    (case u_law => k_is)
    (case v_law => k_is)
    (case o_range => k_is)
    (case o_tuple => k_is)
    (case o_enumerate => k_is)
    (case o_sorted => k_is)
    (case o_zip => k_is)
    (case o_list => k_is)
    (case o_KeyError => k_is)
    (case o_isinstance => k_is)
    (case o_repr => k_is)
    (case o_len => k_is)
    (case o_int => k_is)
    (case o_abs => k_is)
    (case ne_NB => decide)
