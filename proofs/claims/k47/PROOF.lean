import PyProof.Rows.All
import Wide.All
import OpenK.AllK
import Wide.FinOn
import HandS.ForMost
import HandS.ForExc
import HandS.Wide
import HandS.Ends
import HandS.ExcInit
import KE.KExcIs
import KE.KExcInit
import HandS.IsInst
import HandS.TryMany
import HandS.Style
import PyProof.ReprLen
import PyProof.ReprText
import HandS.Gcd
import HandS.WideMore
import HandS.WideBits
import PyProof.ReprBulk
import PyProof.FitsInt
import HandS.Deep
import HandS.TupAny
import HandS.Walk
import KE.SortData
import PyProof.P3In
import PyProof.StrOps2
import PyProof.Rows.SeqMore
import HandS.Conv
import HandS.Zip
import KE.GoesEnum
import PyProof.P3Eq
import PySem.Challenge.RW_whyblank_k47_signs_and_rows_that_lean
set_option Elab.async false
set_option linter.all false
set_option maxRecDepth 100000
set_option maxHeartbeats 4000000
/-! Wb0: repr of data, and calls whose surroundings run no repr (guards empty). -/
namespace Wb
open PySem PySem.Spec PyProof.Rows L2

/-! ### repr over data -/
def rShow (K : PySem.W.Frag) : List V → Hp → VK → Prop := fun xs H Q =>
  ∃ (x : V) (d : PyData), xs = [x] ∧ Dp K H x d ∧ d.showable = true ∧ d.hasDict = false ∧ d.depth ≤ 60 ∧ d.shown.length ≤ sizeLine ∧ Q (.str d.shown) H
section
variable {X : Cx}
theorem call_show (hg : X.A.guards = some []) (hu : X.A.units + 64 < cLine) : CallR X (.builtin "repr") (rShow X.K) := by
  intro pins s σ H xs us Q I rr hh
  obtain ⟨x, d, rfl, hd, hs, hn, hdep, hl, hq⟩ := hh
  cases rr with
  | cons r1 r2 =>
  cases r2
  rename_i u
  obtain ⟨as, rd⟩ := Dp.reads I d x u hd r1
  have done : ∀ (h' : Heap) (t tk : Nat), (∀ b o, s.heap.get? b = some o → h'.get? b = some o) → EP X pins σ Q (.str d.shown t) { s with heap := h', toks := tk } :=
    fun h' t tk kp => ⟨.str d.shown, H, I.kept kp, ⟨t, rfl⟩, hq⟩
  cases hd with
  | non =>
    obtain rfl : u = Value.none := r1
    simp only [PyData.shown] at done
    exact PySem.P.repr_of_none (done _ _ _ fun _ _ e => e)
  | bl b =>
    obtain rfl : u = Value.bool b := r1
    simp only [PyData.shown] at done
    exact PySem.P.repr_of_bool (done _ _ _ fun _ _ e => e)
  | int i =>
    obtain ⟨t, rfl⟩ := r1
    simp only [PyData.shown] at done
    exact PySem.P.repr_of_int (by simpa [PyData.showable] using hs) (done _ _ _ fun _ _ e => e)
  | str z =>
    obtain ⟨t, rfl⟩ := r1
    simp only [PyData.shown] at done
    exact PySem.P.repr_of_str (done _ _ _ fun _ _ e => e) (by simpa only [PyData.shown] using hl)
  | lst h1 h2 =>
    cases r1
    exact repr_of_reads' rd hs (PyData.noDict_hsm hn) hg (by omega) (fun _ _ e => e) (fun h' t tk kp => done h' t tk kp) hl
  | tup h1 h2 =>
    cases r1
    exact repr_of_reads' rd hs (PyData.noDict_hsm hn) hg (by omega) (fun _ _ e => e) (fun h' t tk kp => done h' t tk kp) hl
end

/-! ### a def that is called where no repr runs -/
structure FnG (P : Program) (w : World) (K : PySem.W.Frag) (mg : Str → Option Value) (base : Heap) (CX : CXT) (k : Nat) (f : Addr) (fd : FuncData) (ps : List Str) (sp : Sp) : Prop where
  arity : ∀ vs H Q E, sp vs H Q E → vs.length = ps.length
  go : ∀ (A : Around) (outer : List Env) (s : Shared) (H : Hp) (args : Args) (us : List Value) (vs : List V) (Q : VK) (E : XK),
    A.guards = some [] → Room k A → Env0 P w K mg base A outer s H → BindsTo s fd args (ps.zip us) → Vals vs us → sp vs H Q E →
    codeAny (model P w) A (.call (.ref f) args) (CR CX outer P w H s Q E) s

theorem FnG.of {P w K mg base CX k f fd ps sp} (F : FnOk P w K mg base CX k f fd ps sp) : FnG P w K mg base CX k f fd ps sp :=
  ⟨F.len, fun A outer s H args us vs Q E _ => F.run A outer s H args us vs Q E⟩

section
variable {P : Program} {w : World} {K : PySem.W.Frag} {mg : Str → Option Value} {base : Heap}
/-- the body of such a def, with the surroundings' guards told -/
theorem okG {CX : CXT} {x qual : Str} {st : Stmt} {f : Addr} {fd : FuncData} {N ps : List Str} {k : Nat} {sp : Sp} (F : Fun K x qual st f fd) (S : FnScope N ps (defScope st)) (ar : ∀ vs H Q E, sp vs H Q E → vs.length = ps.length)
    (body : ∀ (cdv : Value) (A : Around) (outer : List Env) (s : Shared) (H : Hp) (vs : List V) (Q : VK) (E : XK),
      (A.deeper (envOfC qual (defScope st) s.heap.objs.size f cdv)).guards = some [] → Room k (A.deeper (envOfC qual (defScope st) s.heap.objs.size f cdv)) → sp vs H Q E →
      ∃ t, PSs (cxOf CX P w K mg base N qual (defScope st) f cdv A outer s H E) (defBody st) t ∧ t { nx := fun _ H' => Q .non H', rt := Q } (start N vs) H) :
    FnG P w K mg base CX (k + 1) f fd ps sp := by
  obtain ⟨a1, a2, a3, a4, a5, a6, cdv, a8, a9, rfl, found, coded⟩ := F.ex
  refine ⟨ar, ?_⟩
  intro A outer s H args us vs Q E gd room env0 bnd rel want
  have many := ar _ _ _ _ want
  have inS : K.In s.heap := env0.mod.kin.keeps fun b o e => (env0.bs b o e).1
  have noLim : s.heap.NoLimit := env0.mod.nolimit.keeps fun b o e => (env0.bs b o e).1
  refine codeAny_call_function room.depth (inS _ _ found) rfl S.co S.gen rfl (PySem.W.codeRec_of inS coded) (bnd _ _ _ _ ?_)
  have kinds : ∀ y ∈ ps.zip us, (defScope st).names.lookup y.1 = some .local ∨
      ((defScope st).names.lookup y.1 = some .cell ∧ ((cellsFrom (s.heap.objs.size + 1) (defScope st).names []).lookup y.1).isSome = true) := by
    rintro ⟨n, v⟩ mem
    have hp := S.par n (List.of_mem_zip mem).1
    rcases hp with hp | hp
    · exact Or.inl hp
    · exact Or.inr ⟨hp, PySem.W.cellsFrom_some _ _ _ (Or.inl hp)⟩
  refine wpAny_newFunctionEnv_cells S.kind kinds ?_
  intro env isEnv s1 inCall
  subst isEnv
  refine ⟨noLim.keeps inCall.toInCall.keep, codeAny_func ?_⟩
  have gd2 : (A.deeper (envOfC qual (defScope st) s.heap.objs.size f cdv)).guards = some [] := gd
  obtain ⟨t, derived, holds⟩ := body cdv A outer s H vs Q E gd2 (room.deeper _) want
  have inv := inv_start (CX := CX) (E := E) (qual := qual) (cd := cdv) (f := f) S room.hd env0 many rel inCall
  refine wpAny_mono (derived.run [] s1 (start N vs) H _ inv holds) ?_ (fun _ _ z => z)
  intro fl s' got
  cases fl with
  | ret u =>
    obtain ⟨v, σ', H', J, rv, q⟩ := got
    exact ⟨v, H', J.os, J.bare, J.base, J.hok, rv, q⟩
  | next =>
    obtain ⟨σ', H', J, q⟩ := got
    exact ⟨V.non, H', J.os, J.bare, J.base, J.hok, rfl, q⟩
  | brk => obtain ⟨_, _, _, q⟩ := got; exact q.elim
  | cont => obtain ⟨_, _, _, q⟩ := got; exact q.elim
end

/-! ### calling it -/
section
variable {X : Cx} {CX : CXT} {k : Nat} {f : Addr} {fd : FuncData} {ps : List Str} {sp : Sp} {dvs : List V} {ds : List Value} {E : XK} {x : Str} {p pos : Pos} {e : Expr} {es : List Expr} {t : TA}
theorem runG {pins : List (Addr × Obj)} {σ : L2.St} {H : Hp} {s : Shared} {Q : VK} {us : List Value} {vs : List V} (F : FnG X.prog X.w X.K X.mg X.base CX k f fd ps sp) (gd : X.A.guards = some []) (hr : Room k X.A) (hb : Binds X.K fd ps ds) (hd : Vals dvs ds)
    (hx : Passes CX X E) (I : Inv X pins σ H s) (r : Vals vs us) (h : sp (vs ++ dvs) H Q E) : wpAny (model X.prog X.w) X.A (call (.ref f) us) (EP X pins σ Q) X.xe s := by
  have r2 := r.append hd
  have many : (us ++ ds).length = ps.length := r2.length.symm.trans (F.arity _ _ _ _ h)
  apply wpAny_call
  refine codeAny_mono (F.go X.A X.stack s H ⟨us, []⟩ _ _ Q E gd hr I.env0 (hb s us I.kIn many) r2 h) ?_
  intro res s' got
  match res, got with
  | .error er, got => exact hx pins σ H s er s' I got
  | .ok (.ret u), got => exact I.after got
theorem pe_callG (F : FnG X.prog X.w X.K X.mg X.base CX k f fd ps sp) (gd : X.A.guards = some []) (hr : Room k X.A) (hg : Gl X x) (hm : X.mg x = some (.ref f)) (hk : PySem.W.keepIn X.K (.ref f) = true) (hb : Binds X.K fd ps ds) (hd : Vals dvs ds)
    (hx : Passes CX X E) (ha : PA X (e :: es) t) (hdb : (x == ("__debug__" : Str)) = false := by decide) (he : starEach (e :: es) X.env = (false, eval e X.env) :: starEach es X.env := by rfl)
    (hpl : (backTo pos (starEach es X.env)).any (·.1) = false := by rfl) : PE X (.Call (.Name x p) (e :: es) [] pos) (tCall sp dvs E t) := by
  constructor
  intro pins s σ H Q I h
  apply wpAny_Call_Name_kw
  apply ld_glob I hg hm _ hdb
  refine PySem.W.callWith_K (h₀ := X.base) I.ok.mod.kin hk (thn (ha.run pos pins s σ H _ I h) ?_) he hpl
  rintro us s1 ⟨vs, H1, I1, r, q⟩
  exact ⟨I1.kIn, runG F gd hr hb hd hx I1 r q⟩
end
end Wb

set_option Elab.async false
set_option linter.all false
set_option maxRecDepth 100000
set_option maxHeartbeats 4000000
/-! Wb1: the law's own call, guards told. -/
namespace Wb
open PySem PySem.Spec PyProof.Rows L2

/-- the law's def, promised where no repr runs, called from outside -/
theorem lawG {P : Program} {w : World} {K : PySem.W.Frag} {mg mb : Str → Option Value} {CX : CXT} {k : Nat} {fa a : Addr} {fd : FuncData} {x : Str} {sp : Sp} {st : Shared} {vs : List Value} {ns : List Int}
    (inK : K.In st.heap) (names : st.heap.Ns mainGlobals mg) (bns : st.heap.Ns builtinsNs mb) (boot : ∀ x : Str, x ≠ "__name__" → mb x = bootBuiltins x) (lim : st.heap.NoLimit) (nogen : st.gens = #[])
    (atA : st.heap.get? a = some { cls := .type "list", data := .seq vs.toArray }) (areInts : IntsAre vs ns) (short : ns.length ≤ sizeLine) (room : Room k callerA)
    (F : ∀ base : Heap, K.In base → base.Ns mainGlobals mg → FnG P w K mg base CX k fa fd [x] sp) (bind1 : ∀ (s : Shared) (u : Value), BindsTo s fd ⟨[u], []⟩ [(x, u)])
    (want : ∀ H : Hp, Only H → SqL K H a (ns.map V.int) → sp [.ref a] H (fun v _ => v = .bl true) fun _ _ _ => False)
    (noX : ∀ H e s', CX [] H st (fun _ _ _ => False) e s' → False) :
    codeAny (model P w) callerA (.call (.ref fa) ⟨[.ref a], []⟩) (fun r s' => r = .ok (.ret (.bool true)) ∧ OldK st.heap s'.heap ∧ s'.os = st.os ∧ AllBare s'.gens) st := by
  have rel := vals_ints areInts
  have same := areInts.length
  -- what is told of any abstract heap that tracks the script at most
  suffices go : ∀ H : Hp, Only H → SqL K H a (ns.map V.int) → HOk P w H st.heap → (∀ b, H b ≠ none → b = a) → (H a ≠ none → K.lookup a = none) →
      codeAny (model P w) callerA (.call (.ref fa) ⟨[.ref a], []⟩) (fun r s' => r = .ok (.ret (.bool true)) ∧ OldK st.heap s'.heap ∧ s'.os = st.os ∧ AllBare s'.gens) st by
    rcases own : K.lookup a with _ | ob
    · -- the script is tracked, as a thing that stands still
      let frozen : HO := .frz { cls := .type "list", data := .seq vs.toArray } (.lst (ns.map V.int))
      refine go (fun b => if b = a then some frozen else none) ?_ ?_ ?_ ?_ (fun _ => own)
      · intro b
        by_cases e : b = a
        · exact Or.inr ⟨_, _, if_pos e⟩
        · exact Or.inl (if_neg e)
      · exact Or.inl (Or.inr ⟨_, if_pos rfl⟩)
      · intro b u e
        by_cases h : b = a
        · subst h
          cases (if_pos rfl).symm.trans e
          exact ⟨atA, by simpa using short, vs, _, rel, atA⟩
        · cases (if_neg h).symm.trans e
      · intro b e
        by_cases h : b = a
        · exact h
        · exact absurd (if_neg h) e
    · -- the script is one of the module's own objects
      have there := inK a ob own
      rw [atA] at there
      cases there
      refine go (fun _ => none) (fun _ => Or.inl rfl) ?_ (fun b u e => ?_) (fun b e => absurd rfl e) (fun e => absurd rfl e)
      · exact Or.inr ⟨_, vs.toArray, _, own, rfl, rfl, rfl, by rw [List.size_toArray, same]; exact short, by simpa using rel⟩
      · have e' : (none : Option HO) = some u := e
        cases e'
  intro H only seq ok just notK
  have keepB : ∀ {b : Addr} {o : Obj}, st.heap.get? b = some o → H b = none → (hidT st.heap H).get? b = some o := fun e n => hidT_get e n
  have dictFree : ∀ {b : Addr} {o : Obj} {es : Array DictEntry} {ep : Nat}, st.heap.get? b = some o → o.data = .dict es ep → H b = none := by
    intro b o es ep e d
    by_cases q : H b = none
    · exact q
    · have h := just b q
      subst h
      rw [atA] at e
      cases e
      have d' : Data.seq vs.toArray _ = Data.dict es ep := d
      cases d'
  have nsIn : ∀ {b : Addr} {m : Str → Option Value}, st.heap.Ns b m → (hidT st.heap H).Ns b m := by
    rintro b m ⟨o, es, ep, e, d, r⟩
    exact ⟨o, es, ep, keepB e (dictFree e d), d, r⟩
  have inBase : K.In (hidT st.heap H) := by
    intro b o e
    refine keepB (inK b o e) ?_
    by_cases q : H b = none
    · exact q
    · have h := just b q
      subst h
      rw [notK q] at e
      cases e
  have md : Mod K mg (hidT st.heap H) := by
    obtain ⟨mc, l1, l2⟩ := lim
    exact ⟨inBase, nsIn names, ⟨mb, nsIn bns, boot⟩, ⟨mc, nsIn l1, l2⟩⟩
  have env0 : Env0 P w K mg (hidT st.heap H) callerA [] st H :=
    ⟨rfl, md, fun b o e => of_hidT e, Nat.le_of_eq (hidT_size _ _), trivial, fun b hb => absurd (show b ∈ ([] : List Addr) from hb) (by simp), ok, .of_eq nogen⟩
  have ran := (F _ inBase (nsIn names)).go callerA [] st H ⟨[.ref a], []⟩ [.ref a] [.ref a] _ _ rfl room env0 (bind1 st (.ref a)) (.cons rfl .nil) (want H only seq)
  refine codeAny_mono ran ?_
  intro r s' h
  match r, h with
  | .error e, h => exact (noX H e s' h).elim
  | .ok (.ret u), h =>
    obtain ⟨v, H', os, bare, un, ok', rv, q⟩ := h
    have q' : v = .bl true := q
    subst q'
    obtain rfl : u = Value.bool true := rv
    refine ⟨rfl, OldK.of_keep ?_, os, bare⟩
    intro b o e
    by_cases q : H b = none
    · exact un.keep b o e q (fun z => absurd (show b ∈ ([] : List Addr) from z) (by simp)) (by simp)
    · rcases only b with z | ⟨ob, xs, z⟩
      · exact absurd z q
      · obtain ⟨e1, _⟩ := ok b _ z
        obtain ⟨e2, _⟩ := ok' b _ (un.frzs b ob _ z)
        rw [e] at e1
        cases e1
        exact e2

/-- the goal that the head leaves, from such a promise of the law's def -/
theorem walkG {l : PySem.W.OpenLaw} {n k : Nat} {q : Program} {loose : List Str} {XP : (Str → Option Value) → Heap → Prop} {YP : World → Heap → Prop} {d : DefRec} {K : Params → PySem.W.Frag} {CX : World → CXT} {sp : World → Sp} {x : Str}
    (h1 : l.most = some n) (h2 : n ≤ sizeLine) (h3 : d.params.defaults = []) (room : Room k callerA) (hY : ∀ (w : World) (h : Heap), YP w h → (K w.params).In h)
    (F : ∀ (w : World) (mg : Str → Option Value) (fa : Addr) (h : Heap), (K w.params).In h → h.Ns mainGlobals mg → mg d.name = some (.ref fa) →
      ∃ fd : FuncData, (∀ (s : Shared) (u : Value), BindsTo s fd ⟨[u], []⟩ [(x, u)]) ∧
        ∀ base : Heap, (K w.params).In base → base.Ns mainGlobals mg → FnG l.prog w (K w.params) mg base (CX w) k fa fd [x] (sp w))
    (want : ∀ (w : World) (H : Hp) (a : Addr) (ns : List Int), ns.length ≤ n → Only H → SqL (K w.params) H a (ns.map V.int) → sp w [.ref a] H (fun v _ => v = .bl true) fun _ _ _ => False)
    (noX : ∀ (w : World) (H : Hp) (s : Shared) (e : Value) (s' : Shared), CX w [] H s (fun _ _ _ => False) e s' → False) :
    PySem.W.WalkO q loose XP YP l.row.toRowW d [] (fun f vs => PySem.call f vs) := by
  apply Att.attach_call h1 h3
  intro w s₀ s₁ mg mb fa o pm cd doc a vs ns G Y ho hd hcd hmg hobj hints hlen hg
  have inK := hY w _ Y
  obtain ⟨fd, hb, hF⟩ := F w mg fa _ inK G.T.g hmg
  exact lawG inK G.T.g G.T.b G.T.builtins G.T.nolimit hg hobj hints (Nat.le_trans hlen h2) room hF hb (fun H hO hS => want w H a ns hlen hO hS) fun H e s' => noX w H s₁ e s'
end Wb

set_option Elab.async false
set_option linter.all false
set_option maxRecDepth 100000
set_option maxHeartbeats 4000000
/-! Wb2: own exceptions as values: made (by position and by name), their field read, isinstance. -/
namespace PySem
namespace WbE
open PySem.W PySem.Calls PyProof.Rows
section
variable {prog : Program} {w : World} {M : Model} {A : Around} {E : Value → Shared → Prop} {R : Result → Shared → Prop} {h : Heap} {g : Array GenState} {d : Drawn} {t : Nat} {os : OsState}
variable {nm q : Str} {C N : Addr} {bs bm bmB : List Value} {hdct : Bool} {sn : List Str} {sub : List Value} {ab : Bool} {col : Option Bool} {dd : Option Addr} {k0 k1 k2 k3 k5 : Option Value} {B newId initId : String}
variable {rest : List Value} {kw : List (Str × Value)}

/-- what is asked of the class's chain: the built-in base is in it, the two bases with members of their own are not -/
structure Chain (bm : List Value) (B : String) : Prop where
  base : bm.contains (.type B) = true
  noA : bm.contains (.type "AttributeError") = false
  noN : bm.contains (.type "NameError") = false

theorem checkNew (F : ExcBaseFacts B newId initId bmB) (ch : Chain bm B) {Q : Unit → Shared → Prop} (atC : h.get? C = some (excClassObj nm q C N bs bm hdct sn sub ab col dd k0 k1 k2 k3 k5 newId))
    (hq : Q () ⟨h, g, d, t, os⟩) : wpAny M A (checkBuiltinCall newId ⟨.ref C :: rest, kw⟩) Q E ⟨h, g, d, t, os⟩ := by
  have inB : (Value.ref C :: bm).contains (.type B) = true := by
    rw [List.contains_cons, ch.base, Bool.or_true]
  have star := F.noStar
  simp only [checkBuiltinCall, F.newKind, F.newSplit, F.newRow]
  repeat (first
    | refine wpAny_loadPart_at atC ?_
    | (refine wpAny_isSubtype_exc atC ?_; rw [inB])
    | refine wpAny_staticBase_exc atC ?_
    | refine wpAny_madeBy_exc atC ?_
    | simp only [bne_self_eq_false, Bool.false_eq_true, if_false]
    | wp_step)
  exact hq

theorem runNew (F : ExcBaseFacts B newId initId bmB) (ch : Chain bm B) (atC : h.get? C = some (excClassObj nm q C N bs bm hdct sn sub ab col dd k0 k1 k2 k3 k5 newId)) (short : rest.length ≤ sizeLine)
    (hq : R (.ok (.ret (.ref (h.objs.size + 1)))) ⟨(h.push (W.kdv_tup rest)).push (HandSPX.excO C h.objs.size), g, d, t, os⟩) :
    codeAny (model prog w) A (.builtin newId ⟨.ref C :: rest, kw⟩) R ⟨h, g, d, t, os⟩ := by
  have ends := F.ends
  have inB : (Value.ref C :: bm).contains (.type B) = true := by
    rw [List.contains_cons, ch.base, Bool.or_true]
  have outA : (Value.ref C :: bm).contains (.type "AttributeError") = false := by
    rw [List.contains_cons, ch.noA]
    rfl
  have outN : (Value.ref C :: bm).contains (.type "NameError") = false := by
    rw [List.contains_cons, ch.noN]
    rfl
  refine codeAny_builtinAt F.entry ?_
  unfold Builtin.«BaseException.__new__»
  apply wpAt_bind
  show wpAt _ _ _ (stack >>= _) _ _ _
  apply wpAt_bind
  apply wpAt_stack
  intro p below
  apply wpAt_of_wpAny
  wp_walk
  apply wpAt_of_wpAny
  rw [F.owner]
  repeat (first
    | with_reducible refine wpAny_madeHere_exc F.canon atC ?_
    | with_reducible refine wpAny_loadPart_at atC ?_
    | (with_reducible refine wpAny_isSubtype_exc atC ?_; first | rw [inB] | rw [outA] | rw [outN])
    | wp_step)
  show R _ _
  rw [Heap.size_push]
  exact hq

theorem runCall (F : ExcBaseFacts B newId initId bmB) (ch : Chain bm B) {iv : Value} {Q : Fin → Shared → Prop} (atC : h.get? C = some (excClassObj nm q C N bs bm hdct sn sub ab col dd k0 k1 k2 k3 k5 newId))
    (lk : W.Looks (model prog w) h (typeLookup (.ref C) "__init__") (some iv)) (bd : ∀ self, W.Looks (model prog w) h (bindSpecial iv self) (iv, [self])) (short : rest.length ≤ sizeLine)
    (hq : codeAny (model prog w) A (.call iv ⟨.ref (h.objs.size + 1) :: rest, kw⟩)
      (fun r s' => match r with
        | .ok (.ret v) => v = .none ∧ Q (.done (.ret (.ref (h.objs.size + 1)))) s'
        | .ok _ => False
        | .error e => E e s')
      ⟨(h.push (W.kdv_tup rest)).push (HandSPX.excO C h.objs.size), g, d, t, os⟩) :
    wpAny (model prog w) A (Builtin.«type.__call__» ⟨.ref C :: rest, kw⟩) Q E ⟨h, g, d, t, os⟩ := by
  repeat (first
    | with_reducible refine wpAny_loadPart_at atC ?_
    | with_reducible refine wpAny_madeBy_exc atC ?_
    | wp_step)
  refine codeAny_call_builtin_code (Code.quiet_builtin _ F.quiet) (checkNew F ch atC ?_)
  refine runNew F ch atC short ?_
  show wpAny _ _ _ _ _ _
  have grown : ∀ b o, h.get? b = some o → ((h.push (W.kdv_tup rest)).push (HandSPX.excO C h.objs.size)).get? b = some o :=
    fun b o e => Heap.get?_push_of_some _ (Heap.get?_push_of_some _ e)
  have atC1 := grown _ _ atC
  have made : ((h.push (W.kdv_tup rest)).push (HandSPX.excO C h.objs.size)).get? (h.objs.size + 1) = some (HandSPX.excO C h.objs.size) := by heap_get
  have self_ : (Value.ref C :: bm).contains (.ref C) = true := by simp
  have lk1 := lk.keeps grown
  have bd1 := (bd (.ref (h.objs.size + 1))).keeps grown
  unfold isInstance
  repeat (first
    | with_reducible refine wpAny_loadPart_at made ?_
    | (with_reducible refine wpAny_isSubtype_exc atC1 ?_; rw [self_])
    | wp_step)
  show wpAny _ _ (typeLookup (.ref C) _) _ _ _
  refine lk1.at ?_
  refine wpAny_holding (wpAny_bind (bd1.at ?_))
  apply wpAny_bind
  refine wpAny_call (codeAny_mono hq ?_)
  intro r s' z
  match r, z with
  | .error e, z => exact z
  | .ok (.ret v), z =>
    obtain ⟨rfl, z⟩ := z
    first
      | exact wpAny_pure (wpAny_pure z)
      | (wp_walk; exact z)

theorem callE (F : ExcBaseFacts B newId initId bmB) (ch : Chain bm B) {iv : Value} (atC : h.get? C = some (excClassObj nm q C N bs bm hdct sn sub ab col dd k0 k1 k2 k3 k5 newId))
    (lk : W.Looks (model prog w) h (typeLookup (.ref C) "__init__") (some iv)) (bd : ∀ self, W.Looks (model prog w) h (bindSpecial iv self) (iv, [self])) (short : rest.length ≤ sizeLine)
    (hq : codeAny (model prog w) (A.under (.builtin "type.__call__" ⟨.ref C :: rest, kw⟩)) (.call iv ⟨.ref (h.objs.size + 1) :: rest, kw⟩) (W.InitBack (h.objs.size + 1) R)
      ⟨(h.push (W.kdv_tup rest)).push (HandSPX.excO C h.objs.size), g, d, t, os⟩) :
    codeAny (model prog w) A (.call (.ref C) ⟨rest, kw⟩) R ⟨h, g, d, t, os⟩ := by
  have e1 := tc_lookup
  have e2 := tc_bind (.ref C)
  have isT : (⟨h, g, d, t, os⟩ : Shared).TypeIs (.ref C) "type" := ⟨_, atC, rfl⟩
  apply codeAny_of_tree
  show wpAny _ _ (callAny (.ref C) _) _ _ _
  repeat (any_goals (first
    | assumption
    | with_reducible refine wpAny_loadPart_at atC ?_
    | wp_step))
  refine ⟨rfl, ?_⟩
  refine codeAny_call_builtin_at (Code.quiet_builtin _ (by decide +kernel)) entry_typeCall ?_
  refine wpAny_check_type_call_sub atC ?_
  refine runCall F ch atC lk bd short (codeAny_mono hq ?_)
  intro r s' z
  match r, z with
  | .error e, z => exact z
  | .ok (.ret v), z => exact z
end
end WbE
end PySem

set_option Elab.async false
set_option linter.all false
set_option maxRecDepth 100000
set_option maxHeartbeats 4000000
/-! Wb3: own exceptions as tracked values. -/
namespace PySem.F
theorem storeKeyError : StoreFacts "KeyError"
    [.type "KeyError", .type "LookupError", .type "Exception", .type "BaseException", .type "object"]
    "object.__setattr__" "object" := by
  refine ⟨by kernel_rfl, ?_, entry_object_sa, by decide +kernel, by decide +kernel, by decide +kernel, ?_, fun _ => by kernel_rfl⟩
  · refine .of (owner := "object") (n := "__setattr__") ?_ (by decide +kernel) (by decide +kernel) (by decide +kernel) ?_ ?_
    · rw [typeLookup_type, builtinLookup_eq_fast]
      kernel_rfl
    · first
        | exact .inl (by decide +kernel)
        | exact .inr (by decide +kernel)
    · rw [isSubtype_type]
      kernel_rfl
  · intro a b c
    unfold argsOk
    kernel_rfl
end PySem.F
namespace PySem
namespace WbE
open PySem.W PySem.Calls PyProof.Rows
section
open Builtin Builtin.ObjectAttr
variable {prog : Program} {w : World} {A : Around} {R : Result → Shared → Prop} {hp : Heap} {g : Array GenState} {d : Drawn} {t : Nat} {os : OsState}
/-- the first field of an exception of an own class, whatever its built-in base -/
theorem setFirst {S : String} {bmS : List Value} {K : W.Frag} {name : Str} {tk : Tok} {v : Value} {x C : Addr} {fv : Array Value} {cd : ClassData} (SF : StoreFacts S bmS "object.__setattr__" "object")
    (X : K.In hp) (hx : hp.get? x = some { cls := .ref C, data := .fields fv }) (hcd : W.clsIn K C = some cd) (hd : cd.hasDict = true) (over : excOver K C bmS = true) (no : W.findIn K (.ref C) name = some none)
    (hq : ∀ h' tk' dx, (∀ b o, b ≠ x → hp.get? b = some o → h'.get? b = some o) → hp.objs.size ≤ dx → dx ≠ x →
      h'.get? x = some { cls := .ref C, dict := some dx, data := .fields fv } → h'.Ns1 dx (fun y => if y = name then some v else none) → R (.ok (.ret .none)) ⟨h', g, d, tk', os⟩) :
    codeAny (model prog w) A (.call (.builtin "object.__setattr__") ⟨[.ref x, .str name tk, v], []⟩) R ⟨hp, g, d, t, os⟩ := by
  have at_ : W.InstAt hp x { cls := .ref C, data := .fields fv } C none := ⟨hx, rfl, rfl, trivial⟩
  have ne : x ≠ hp.objs.size := Nat.ne_of_lt (Heap.lt_size hx)
  have look : W.Looks (model prog w) hp (classData C) cd := W.looks_clsIn X hcd
  have taker : W.takerIn K C name = some none := by
    unfold W.takerIn
    rw [no]
    rfl
  refine W.osa_openX (s := ⟨hp, g, d, t, os⟩) SF X at_ over taker fun b => ?_
  obtain ⟨c1, c2, c3, c4, c5, hasD, c7, c8, c9, c10, c11⟩ := cd
  dsimp only at hd
  subst hd
  unfold storeInOwnDict ownDictForStores
  repeat (first
    | with_reducible refine HandSPX.store_in_new ?_ ?_
    | with_reducible refine wpAny_loadPart_at hx ?_
    | with_reducible refine look.at ?_
    | wp_step)
  · exact ⟨_, #[], _, (Heap.get?_update_ne _ _ _ _ ne.symm).trans (Heap.get?_push_at rfl rfl), rfl, fun e he => absurd he (by simp), fun _ => rfl⟩
  · intro h' tk' ns' same
    have pushed : (hp.push { cls := .type "dict", data := .dict #[] }).get? x = some { cls := .ref C, data := .fields fv } := Heap.get?_push_of_some _ hx
    refine hq h' tk' hp.objs.size ?_ (Nat.le_refl _) ne.symm ?_ ns'
    · intro b o hb ho
      rw [same.2 b (Nat.ne_of_lt (Heap.lt_size ho)), Heap.get?_update_ne _ _ _ _ hb]
      exact Heap.get?_push_of_some _ ho
    · rw [same.2 x ne]
      exact Heap.get?_update_self _ pushed rfl
end
end WbE
end PySem

namespace Wb
open PySem PySem.Spec PyProof.Rows L2
/-- what the written part says of an own exception's class at C: made by newId (of the built-in B), the fields stored as S's chain stores them -/
structure ErrC (K : PySem.W.Frag) (C : Addr) : Prop where
  new : ∃ (B newId initId : String) (bmB : List Value) (nm q : Str) (N : Addr) (bs bm : List Value) (sn : List Str) (sub : List Value) (ab : Bool) (col : Option Bool) (dd : Option Addr) (k0 k1 k2 k3 k5 : Option Value),
    PySem.ExcBaseFacts B newId initId bmB ∧ PySem.WbE.Chain bm B ∧ K.lookup C = some (excClassObj nm q C N bs bm true sn sub ab col dd k0 k1 k2 k3 k5 newId)
  store : ∃ (S : String) (bmS : List Value), PySem.StoreFacts S bmS "object.__setattr__" "object" ∧ PySem.W.excOver K C bmS = true
  sa : PySem.W.findIn K (.ref C) "__setattr__" = some (some (.builtin "object.__setattr__"))
  ga : PySem.W.findIn K (.ref C) "__getattribute__" = some (some (.builtin "BaseException.__getattribute__"))
  gg : PySem.W.findIn K (.ref C) "__getattr__" = some none
  exc : PySem.W.subIn K (.ref C) (.type "BaseException") = some true
  ty : PySem.W.typeIn K (.ref C) = some (.type "type")
  hd : PySem.W.hasDictIn K C = true
  kp : PySem.W.keepIn K (.ref C) = true
  hc : PySem.W.findIn K (.ref C) "__class__" = some (some (.builtin "object.__class__"))
  hn : PySem.W.specialIn K (.builtin "object.__class__") "__get__" = some (some (.builtin "getset_descriptor.__get__"))
  ht : PySem.W.takesIn K (.builtin "object.__class__") = some true
  hm : PySem.W.mroIn K C (.type "object") = some true

section
variable {X : Cx} {pins : List (Addr × Obj)} {σ : L2.St} {H : Hp} {s : Shared} {a C dx fI : Addr} {f : Str} {y v : V} {u : Value} {fs : List (Str × V)} {A : Around} {k : Nat}
/-- self.f = y in an __init__, the first field -/
theorem setNew {Q : Unit → Shared → Prop} {E : Value → Shared → Prop} (T : ErrC X.K C) (I : Inv X pins σ H s) (e : H a = some (exo a C none)) (no : PySem.W.findIn X.K (.ref C) f = some none) (ry : RelV y u)
    (h : ∀ dx s', H dx = none → dx ≠ a → Inv X pins σ (upd (upd H dx (exd dx [(f, y)])) a (exo a C (some dx))) s' → Q () s') : wpAny (model X.prog X.w) A (setAttr (.ref a) f u) Q E s := by
  obtain ⟨B, newId, initId, bmB, nm, q, N, bs, bm, sn, sub, ab, col, dd, k0, k1, k2, k3, k5, _, _, atC⟩ := T.new
  obtain ⟨S, bmS, SF, over⟩ := T.store
  have cls : PySem.W.clsIn X.K C = some { name := nm, bases := bs, mro := .ref C :: bm, ns := N, qualname := q, hasDict := true, slotNames := sn, subclasses := sub, abstract := ab, collection := col, hasDel := false } := by
    unfold PySem.W.clsIn
    rw [atC] <;> rfl
  obtain ⟨t1, ho⟩ := exo_at I.hok e
  obtain ⟨hp, g, d, t, os⟩ := s
  refine PySem.W.set_plain I.kIn (ox := { cls := .ref C, dict := none, data := .fields #[.ref t1, .none, .none, .none, .bool false, .none] }) (od := none) ⟨ho, rfl, rfl, trivial⟩ T.sa ?_
  refine PySem.WbE.setFirst SF I.kIn ho cls rfl over no ?_
  intro h' tk' dx kept big ne hx ns'
  have free : H dx = none := I.hok.fresh big
  have old : ∀ {b : Addr} {o : Obj}, hp.get? b = some o → b ≠ dx := fun {b o} z => Nat.ne_of_lt (Nat.lt_of_lt_of_le (Heap.lt_size z) big)
  have notA : ∀ {b : Addr}, H b = none → b ≠ a := by
    intro b n z
    rw [z, e] at n
    cases n
  have un : Un X.fs [] H (upd (upd H dx (exd dx [(f, y)])) a (exo a C (some dx))) hp h' := by
    constructor
    · exact fun b o z n _ _ => kept b o (notA n) z
    · exact fun b o z n _ _ => ⟨o.slots, kept b o (notA n) z⟩
    · intro b o z n _
      rw [upd_ne (notA n), upd_ne (old z)]
      exact n
    · intro b o z _
      by_cases hb : b = a
      · exact ⟨_, by rw [hb]; exact hx⟩
      · exact ⟨o, kept b o hb z⟩
    · intro b xs z
      rw [upd_ne (at_ne e z exo_tup), upd_ne (ne_of_none z free)]
      exact z
    · intro b o w z
      rw [upd_ne (at_ne e z exo_frz), upd_ne (ne_of_none z free)]
      exact z
    · intro b ps z
      refine ⟨#[], ?_⟩
      rw [upd_ne (at_ne e z exo_tbl), upd_ne (ne_of_none z free), z]
      simp
  refine h dx _ free ne (I.un (t' := tk') un ?_)
  intro b o z
  by_cases hb : b = a
  · subst hb
    rw [upd_same] at z
    cases z
    exact exo_ok hx
  rw [upd_ne hb] at z
  by_cases hb2 : b = dx
  · subst hb2
    rw [upd_same] at z
    cases z
    exact exd_ok ns' (relO_put (fs := []) ry fun g => True.intro)
  rw [upd_ne hb2] at z
  refine (I.hok b o z).stay ?_ ?_ ?_
  · intro c w hc z2
    refine kept c w ?_ z2
    rcases hc with hc | hc
    · rw [hc]; exact hb
    · exact at_ne e hc exo_own
  · intro c hc
    rw [upd_ne (at_ne e hc exo_own), upd_ne (ne_of_none hc free)]
    exact hc
  · intro c xs hc
    rw [upd_ne (at_ne e hc exo_tup), upd_ne (ne_of_none hc free)]
    exact hc

/-- C(..), C(k = ..) with C's own __init__: an exception at a new address -/
theorem runErr {CX : CXT} {fd : FuncData} {ps : List Str} {sp : Sp} {us : List Value} {kw : List (Str × Value)} {vs : List V} {binds : List Value} {Q : VK} (T : ErrC X.K C) (iC : PySem.W.findIn X.K (.ref C) "__init__" = some (some (.ref fI)))
    (tI : PySem.W.typeIn X.K (.ref fI) = some (.type "function")) (F1 : FnOk X.prog X.w X.K X.mg X.base CX k fI fd ps sp) (room : Room (k + 1) X.A) (hx : Passes CX X (fun _ _ _ => False)) (I : Inv X pins σ H s) (short : us.length ≤ sizeLine)
    (bind : ∀ (s' : Shared) (a : Addr), X.K.In s'.heap → BindsTo s' fd ⟨.ref a :: us, kw⟩ (ps.zip (.ref a :: binds))) (rel : Vals vs binds)
    (h : ∀ a, H a = none → sp (.ref a :: vs) (upd H a (exo a C none)) (fun v H2 => v = .non ∧ Q (.ref a) H2) (fun _ _ _ => False)) :
    wpAny (model X.prog X.w) X.A (call (.ref C) us kw) (EP X pins σ Q) X.xe s := by
  obtain ⟨B, newId, initId, bmB, nm, q, N, bs, bm, sn, sub, ab, col, dd, k0, k1, k2, k3, k5, FB, ch, atC⟩ := T.new
  obtain ⟨hp, g, dr, tk, os⟩ := s
  have le1 : hp.objs.size ≤ hp.objs.size + 1 := Nat.le_succ _
  have free : H (hp.objs.size + 1) = none := I.hok.fresh le1
  have want := h _ free
  have grown : ∀ b o, hp.get? b = some o → ((hp.push (PySem.W.kdv_tup us)).push (PySem.HandSPX.excO C hp.objs.size)).get? b = some o :=
    fun b o e => Heap.get?_push_of_some _ (Heap.get?_push_of_some _ e)
  have made : ((hp.push (PySem.W.kdv_tup us)).push (PySem.HandSPX.excO C hp.objs.size)).get? (hp.objs.size + 1) = some (PySem.HandSPX.excO C hp.objs.size) := by heap_get
  have I2 : Inv X pins σ (upd H (hp.objs.size + 1) (exo (hp.objs.size + 1) C none)) ⟨(hp.push (PySem.W.kdv_tup us)).push (PySem.HandSPX.excO C hp.objs.size), g, dr, tk, os⟩ :=
    I.laid (t' := tk) (a := hp.objs.size + 1) (o := exo (hp.objs.size + 1) C none) (h' := (hp.push (PySem.W.kdv_tup us)).push (PySem.HandSPX.excO C hp.objs.size)) grown le1 (exo_ok made)
  have rel2 : Vals (V.ref (hp.objs.size + 1) :: vs) (Value.ref (hp.objs.size + 1) :: binds) := .cons rfl rel
  apply wpAny_call
  refine PySem.WbE.callE (iv := .ref fI) FB ch (I.kIn _ _ atC) (PySem.W.looks_findIn I.kIn iC) (fun self => PySem.W.bind_fn I.kIn self tI) short ?_
  refine codeAny_mono (F1.run _ X.stack _ _ ⟨Value.ref (hp.objs.size + 1) :: us, kw⟩ (Value.ref (hp.objs.size + 1) :: binds) _ _ (fun _ _ _ => False) (room.make C us kw) (I2.env0.make C us kw) (bind _ _ I2.kIn) rel2 want) ?_
  intro r s' got
  match r, got with
  | .error er, got => exact hx pins σ _ _ er s' I2 got
  | .ok (.ret u), got =>
    obtain ⟨v, H', I3, rv, ev, q3⟩ := I2.after got
    subst ev
    exact ⟨rv, ⟨V.ref (hp.objs.size + 1), H', I3, rfl, q3⟩⟩
end
end Wb

set_option Elab.async false
set_option linter.all false
set_option maxRecDepth 100000
set_option maxHeartbeats 4000000
/-! Wb4: the rules over them. -/
namespace Wb
open PySem PySem.Spec PyProof.Rows L2

theorem upd_mid {H : Hp} {a d : Addr} {o p q : HO} : upd (upd (upd H a o) d p) a q = upd (upd H d p) a q := by
  funext b
  unfold upd
  by_cases h : b = a
  · rw [if_pos h, if_pos h]
  · rw [if_neg h, if_neg h]
    by_cases h2 : b = d
    · rw [if_pos h2, if_neg h]
    · rw [if_neg h2, if_neg h]

/-- self.f = e of an exception's __init__ -/
def tIni (K : PySem.W.Frag) (f : Str) (to te : TE) : TS := fun D σ H => te σ H fun y H1 => to σ H1 fun x H2 =>
  ∃ a C : Addr, x = .ref a ∧ ErrC K C ∧ PySem.W.findIn K (.ref C) f = some none ∧ H2 a = some (exo a C none) ∧
    ∀ dx, H2 dx = none → dx ≠ a → D.nx σ (upd (upd H2 dx (exd dx [(f, y)])) a (exo a C (some dx)))
/-- err.f -/
def tEFld (K : PySem.W.Frag) (f : Str) (to : TE) : TE := fun σ H Q => to σ H fun x H1 =>
  ∃ (a C dx : Addr) (fs : List (Str × V)) (v : V), x = .ref a ∧ H1 a = some (exo a C (some dx)) ∧ H1 dx = some (exd dx fs) ∧ ErrC K C ∧ PySem.W.findIn K (.ref C) f = some none ∧ fs.lookup f = some v ∧ Q v H1
/-- isinstance(err, c) -/
def rIsErr (K : PySem.W.Frag) : List V → Hp → VK → Prop := fun xs H Q =>
  ∃ (a C : Addr) (od : Option Addr) (c : V) (cu : Value) (b : Bool), xs = [.ref a, c] ∧ H a = some (exo a C od) ∧ (∀ dx, od = some dx → ∃ fs, H dx = some (exd dx fs)) ∧ ErrC K C ∧ ClsV c cu ∧
    PySem.W.kitOne K (.ref C) cu = some b ∧ Q (.bl b) H
/-- C(v): an exception at a, its dict at dx -/
def tErr (C : Addr) (f : Str) (ta : TA) : TE := fun σ H Q => ta σ H fun vs H1 =>
  ∃ v, vs = [v] ∧ ∀ a dx, H1 a = none → H1 dx = none → dx ≠ a → Q (.ref a) (upd (upd H1 dx (exd dx [(f, v)])) a (exo a C (some dx)))
/-- the same, to be raised -/
def tErrX (C : Addr) (f : Str) (ta : TA) : L2.St → Hp → XK → Prop := fun σ H Q => ta σ H fun vs H1 =>
  ∃ v, vs = [v] ∧ ∀ dx, H1 dx = none → Q (.ref C) (some dx) (upd H1 dx (.xd [(f, v)]))
/-- __init__(self, f): self.f = f -/
def spIni (C : Addr) (f : Str) : Sp := fun vs H Q _ => ∃ (a : Addr) (v : V), vs = [.ref a, v] ∧ H a = some (exo a C none) ∧
  ∀ dx, H dx = none → dx ≠ a → Q .non (upd (upd H dx (exd dx [(f, v)])) a (exo a C (some dx)))
/-- __init__(self): pass -/
def spIni0 : Sp := fun vs H Q _ => ∃ a : Addr, vs = [.ref a] ∧ Q .non H

section
variable {X : Cx} {o e : Expr} {es : List Expr} {kws : List Keyword} {to te : TE} {ta : TA} {f x : Str} {p p' pos : Pos} {C fI : Addr} {fd : FuncData} {CX : CXT} {k : Nat}
theorem ps_ini (ho : PE X o to) (he : PE X e te) (hs : swapsWith e (some (.Attribute o f p')) pos.line X.env = pure false := by rfl) : PS X (.Assign [.Attribute o f p'] e pos) (tIni X.K f to te) := by
  constructor
  intro pins s σ H D I h
  refine plainObj_wpAny_Assign_Attribute (thn (he.run pins s σ H _ I h) ?_) hs
  rintro v s1 ⟨y, H1, I1, ry, q1⟩
  refine thn (ho.run pins s1 σ H1 _ I1 q1) ?_
  rintro u s2 ⟨x, H2, I2, rx, a, C, rfl, T, no, ea, q⟩
  obtain rfl : u = Value.ref a := rx
  exact setNew T I2 ea no ry fun dx s' n ne J => ⟨σ, _, J, q dx n ne⟩

theorem readErr {pins : List (Addr × Obj)} {σ : L2.St} {H : Hp} {s : Shared} {a dx : Addr} {fs : List (Str × V)} {v : V} {b : Bool} {A : Around} {Q : Value → Shared → Prop} {E : Value → Shared → Prop} (T : ErrC X.K C) (I : Inv X pins σ H s) (ea : H a = some (exo a C (some dx)))
    (ed : H dx = some (exd dx fs)) (no : PySem.W.findIn X.K (.ref C) f = some none) (l : fs.lookup f = some v) (h : ∀ u t', RelV v u → Q u { s with toks := t' }) : wpAny (model X.prog X.w) A (getAttr (.ref a) f b) Q E s := by
  obtain ⟨t1, ho⟩ := exo_at I.hok ea
  obtain ⟨mA, hns, rel⟩ := exd_at I.hok ed
  obtain ⟨od, hod, look⟩ := lookIn_ns hns
  obtain ⟨u, hu, ru⟩ := RelO.some_of (v := v) (o := mA f) (by rw [← l]; exact rel f)
  exact PySem.HandSPX.exc_get (od := some od) I.kIn ⟨ho, rfl, rfl, hod⟩ T.ga T.gg T.exc (PySem.W.findObj_own T.hd no rfl (by rw [look, hu])) (handed_of ru) (h u _ ru)

theorem pe_efld (ho : PE X o to) (hb : attributeBase o f X.env (eval o X.env) = eval o X.env := by rfl) : PE X (.Attribute o f pos) (tEFld X.K f to) := by
  constructor
  intro pins s σ H Q I h
  refine attr_of hb (thn (ho.run pins s σ H _ I h) ?_)
  rintro u s1 ⟨x, H1, I1, rx, a, C, dx, fs, v, rfl, ea, ed, T, no, l, q⟩
  obtain rfl : u = Value.ref a := rx
  exact readErr T I1 ea ed no l fun w t' rw' => ⟨v, H1, I1.tok t', rw', q⟩

theorem call_isErr : CallR X (.builtin "isinstance") (rIsErr X.K) := by
  intro pins s σ H xs us Q I r h
  obtain ⟨a, C, od, c, cu, b, rfl, ea, hod, T, kc, ek, q⟩ := h
  obtain ⟨u1, u2, rfl, r1, r2⟩ := vals2 r
  obtain rfl : u1 = Value.ref a := r1
  have e2 := kc.eq r2
  subst e2
  obtain ⟨t1, ho⟩ := exo_at I.hok ea
  have cls : (PySem.W.clsIn X.K C).isSome = true := by
    obtain ⟨cd, hcd, _⟩ := PySem.W.any_some T.hd
    rw [hcd]
    rfl
  have fin : ∀ tk, EP X pins σ Q (.bool b) { s with toks := tk } := fun tk => ⟨.bl b, H, I.tok tk, rfl, q⟩
  cases od with
  | none =>
    exact PySem.W.kia_one (PySem.W.kitx_exc (od := none) cls T.ga T.gg T.exc T.hc T.hn T.ht T.hm) I.kIn (⟨ho, rfl, rfl, trivial⟩ : PySem.W.InstAt s.heap a _ C none) ek (fun z => nomatch z) fin
  | some dx =>
    obtain ⟨fs, ed⟩ := hod dx rfl
    obtain ⟨mA, hns, _⟩ := exd_at I.hok ed
    obtain ⟨od, hod, _⟩ := lookIn_ns hns
    exact PySem.W.kia_one (PySem.W.kitx_exc (od := some od) cls T.ga T.gg T.exc T.hc T.hn T.ht T.hm) I.kIn (⟨ho, rfl, rfl, hod⟩ : PySem.W.InstAt s.heap a _ C (some od)) ek (fun z => nomatch z) fin

/-- C(e) -/
theorem pe_err (T : ErrC X.K C) (iC : PySem.W.findIn X.K (.ref C) "__init__" = some (some (.ref fI))) (tI : PySem.W.typeIn X.K (.ref fI) = some (.type "function")) {ps : List Str} (F1 : FnOk X.prog X.w X.K X.mg X.base CX k fI fd ps (spIni C f)) (room : Room (k + 1) X.A)
    (hb : Binds X.K fd ps []) (hx : Passes CX X (fun _ _ _ => False)) (hg : Gl X x) (hm : X.mg x = some (.ref C)) (ha : PA X (e :: es) ta) (hdb : (x == ("__debug__" : Str)) = false := by decide)
    (he : starEach (e :: es) X.env = (false, eval e X.env) :: starEach es X.env := by rfl) (hpl : (backTo pos (starEach es X.env)).any (·.1) = false := by rfl) : PE X (.Call (.Name x p) (e :: es) [] pos) (tErr C f ta) := by
  constructor
  intro pins s σ H Q I h
  apply wpAny_Call_Name_kw
  apply ld_glob I hg hm _ hdb
  refine PySem.W.callWith_K (h₀ := X.base) I.ok.mod.kin T.kp (thn (ha.run pos pins s σ H _ I h) ?_) he hpl
  rintro us s1 ⟨vs, H1, I1, r1, v, rfl, q⟩
  refine ⟨I1.kIn, ?_⟩
  show wpAny _ _ (call (.ref C) us) _ _ _
  have want : ∀ a : Addr, H1 a = none → spIni C f (.ref a :: [v]) (upd H1 a (exo a C none)) (fun v H2 => v = .non ∧ Q (.ref a) H2) (fun _ _ _ => False) := by
    intro a ha
    refine ⟨a, v, rfl, upd_same, fun dx hd ne => ⟨rfl, ?_⟩⟩
    rw [upd_mid]
    rw [upd_ne ne] at hd
    exact q a dx ha hd ne
  have many : ∀ a : Addr, (Value.ref a :: us).length = ps.length := by
    intro a
    obtain ⟨n0, hn0⟩ : ∃ n0, H1 n0 = none := ⟨s1.heap.objs.size, I1.hok.fresh (Nat.le_refl _)⟩
    have e1 := F1.len _ _ _ _ (want n0 hn0)
    have e2 := r1.length
    simp only [List.length_cons] at e1 e2 ⊢
    omega
  refine runErr T iC tI F1 room hx I1 (binds := us) (vs := [v]) ?_ ?_ r1 want
  · rw [← r1.length, sizeLine_eq]
    simp
  · intro s' a inK
    have q2 := hb s' (.ref a :: us) inK (by rw [List.append_nil]; exact many a)
    rw [List.append_nil] at q2
    exact q2

/-- C(f = e) -/
theorem pe_errK {g : Str} {kpos : Pos} (T : ErrC X.K C) (iC : PySem.W.findIn X.K (.ref C) "__init__" = some (some (.ref fI))) (tI : PySem.W.typeIn X.K (.ref fI) = some (.type "function")) {s0 : Str} (F1 : FnOk X.prog X.w X.K X.mg X.base CX k fI fd [s0, g] (spIni C f)) (room : Room (k + 1) X.A)
    (hb : ∀ (s' : Shared) (a v : Value), BindsTo s' fd ⟨[a], [(g, v)]⟩ [(s0, a), (g, v)]) (hx : Passes CX X (fun _ _ _ => False)) (hg : Gl X x) (hm : X.mg x = some (.ref C)) (he : PE X e te) (hdb : (x == ("__debug__" : Str)) = false := by decide) :
    PE X (.Call (.Name x p) [] [⟨some g, e, kpos⟩] pos) (tErr C f (tCons te tNil)) := by
  constructor
  intro pins s σ H Q I h
  apply wpAny_Call_Name_kw
  apply ld_glob I hg hm _ hdb
  have pk : PK X [⟨some g, e, kpos⟩] (tCons te tNil) := pk_cons he pk_nil
  refine PySem.W.callWith_KW0 (h₀ := X.base) I.ok.mod.kin T.kp (by rfl) (thn (pk.run pos pins s σ H _ I h) ?_)
  rintro us s1 ⟨vs, H1, I1, r1, v, rfl, q⟩
  refine ⟨I1.kIn, ?_⟩
  have want : ∀ a : Addr, H1 a = none → spIni C f (.ref a :: [v]) (upd H1 a (exo a C none)) (fun v H2 => v = .non ∧ Q (.ref a) H2) (fun _ _ _ => False) := by
    intro a ha
    refine ⟨a, v, rfl, upd_same, fun dx hd ne => ⟨rfl, ?_⟩⟩
    rw [upd_mid]
    rw [upd_ne ne] at hd
    exact q a dx ha hd ne
  cases r1 with
  | cons rv rn =>
  cases rn
  rename_i u
  refine runErr (us := []) (kw := [(g, u)]) T iC tI F1 room hx I1 (binds := [u]) (vs := [v]) (by rw [sizeLine_eq]; simp) ?_ (.cons rv .nil) want
  intro s' a inK
  exact hb s' _ _
end
end Wb

set_option Elab.async false
set_option linter.all false
set_option maxRecDepth 100000
set_option maxHeartbeats 4000000
/-! Wb5: own exceptions raised; those whose __init__ does nothing; those without one. -/
namespace Wb
open PySem PySem.Spec PyProof.Rows L2

section
variable {X : Cx} {e : Expr} {es : List Expr} {te : TE} {ta : TA} {f x : Str} {p p' pos : Pos} {C fI : Addr} {fd : FuncData} {CX : CXT} {k : Nat}
theorem untracked' {H : Hp} {a dx : Addr} {o o' u : HO} {z : HO} (ha : H a = none) (ne : dx ≠ a) : upd (del (upd (upd (upd H a o) dx u) a o') a) dx z = upd H dx z := by
  funext b
  unfold upd del
  by_cases h : b = dx
  · rw [if_pos h, if_pos h]
  · rw [if_neg h, if_neg h]
    by_cases h2 : b = a
    · rw [if_pos h2, h2, ha]
    · rw [if_neg h2]
      show (if b = a then some o' else if b = dx then some u else if b = a then some o else H b) = H b
      rw [if_neg h2, if_neg h, if_neg h2]

/-- C(e), to be raised -/
theorem pmk_err (T : ErrC X.K C) (iC : PySem.W.findIn X.K (.ref C) "__init__" = some (some (.ref fI))) (tI : PySem.W.typeIn X.K (.ref fI) = some (.type "function")) {ps : List Str} (F1 : FnOk X.prog X.w X.K X.mg X.base CX k fI fd ps (spIni C f)) (room : Room (k + 1) X.A)
    (hb : Binds X.K fd ps []) (hx : Passes CX X (fun _ _ _ => False)) (hg : Gl X x) (hm : X.mg x = some (.ref C)) (ha : PA X (e :: es) ta) (hdb : (x == ("__debug__" : Str)) = false := by decide)
    (he : starEach (e :: es) X.env = (false, eval e X.env) :: starEach es X.env := by rfl) (hpl : (backTo pos (starEach es X.env)).any (·.1) = false := by rfl) : PMk X (.Call (.Name x p) (e :: es) [] pos) (tErrX C f ta) := by
  intro pins s σ H Q I h
  obtain ⟨B, newId, initId, bmB, nm, q, N, bs, bm, sn, sub, ab, col, dd, k0, k1, k2, k3, k5, FB, ch, atC⟩ := T.new
  apply wpAny_Call_Name_kw
  apply ld_glob I hg hm _ hdb
  refine PySem.W.callWith_K (h₀ := X.base) I.ok.mod.kin T.kp (thn (ha.run pos pins s σ H _ I h) ?_) he hpl
  rintro us s1 ⟨vs, H1, I1, r1, v, rfl, q1⟩
  refine ⟨I1.kIn, ?_⟩
  show wpAny _ _ (call (.ref C) us) _ _ _
  obtain ⟨hp, g, dr, tk, os⟩ := s1
  have le1 : hp.objs.size ≤ hp.objs.size + 1 := Nat.le_succ _
  have free : H1 (hp.objs.size + 1) = none := I1.hok.fresh le1
  have want : spIni C f (.ref (hp.objs.size + 1) :: [v]) (upd H1 (hp.objs.size + 1) (exo (hp.objs.size + 1) C none))
      (fun r H2 => r = .non ∧ ∃ d : Addr, H2 (hp.objs.size + 1) = some (exo (hp.objs.size + 1) C (some d)) ∧ H2 d = some (exd d [(f, v)]) ∧ H1 d = none ∧ Q (.ref C) (some d) (upd (del H2 (hp.objs.size + 1)) d (.xd [(f, v)]))) (fun _ _ _ => False) := by
    refine ⟨_, v, rfl, upd_same, fun dx hd ne => ⟨rfl, dx, upd_same, ?_, ?_, ?_⟩⟩
    · rw [upd_ne ne, upd_same]
    · rw [upd_ne ne] at hd
      exact hd
    · rw [untracked' free ne]
      rw [upd_ne ne] at hd
      exact q1 dx hd
  have grown : ∀ b o, hp.get? b = some o → ((hp.push (PySem.W.kdv_tup us)).push (PySem.HandSPX.excO C hp.objs.size)).get? b = some o :=
    fun b o z => Heap.get?_push_of_some _ (Heap.get?_push_of_some _ z)
  have made : ((hp.push (PySem.W.kdv_tup us)).push (PySem.HandSPX.excO C hp.objs.size)).get? (hp.objs.size + 1) = some (PySem.HandSPX.excO C hp.objs.size) := by heap_get
  have I2 : Inv X pins σ (upd H1 (hp.objs.size + 1) (exo (hp.objs.size + 1) C none)) ⟨(hp.push (PySem.W.kdv_tup us)).push (PySem.HandSPX.excO C hp.objs.size), g, dr, tk, os⟩ :=
    I1.laid (t' := tk) (a := hp.objs.size + 1) (o := exo (hp.objs.size + 1) C none) (h' := (hp.push (PySem.W.kdv_tup us)).push (PySem.HandSPX.excO C hp.objs.size)) grown le1 (exo_ok made)
  have rel2 : Vals (V.ref (hp.objs.size + 1) :: [v]) (Value.ref (hp.objs.size + 1) :: us) := .cons rfl r1
  have many : (Value.ref (hp.objs.size + 1) :: us).length = ps.length := rel2.length.symm.trans (F1.len _ _ _ _ want)
  have short : us.length ≤ sizeLine := by
    rw [← r1.length, sizeLine_eq]
    simp
  have hb2 := hb ⟨(hp.push (PySem.W.kdv_tup us)).push (PySem.HandSPX.excO C hp.objs.size), g, dr, tk, os⟩ (Value.ref (hp.objs.size + 1) :: us) I2.kIn (by rw [List.append_nil]; exact many)
  rw [List.append_nil] at hb2
  apply wpAny_call
  refine PySem.WbE.callE (iv := .ref fI) FB ch (I1.kIn _ _ atC) (PySem.W.looks_findIn I1.kIn iC) (fun self => PySem.W.bind_fn I1.kIn self tI) short ?_
  refine codeAny_mono (F1.run _ X.stack _ _ ⟨Value.ref (hp.objs.size + 1) :: us, []⟩ (Value.ref (hp.objs.size + 1) :: us) _ _ (fun _ _ _ => False) (room.make C us []) (I2.env0.make C us []) hb2 rel2 want) ?_
  intro r s' got
  match r, got with
  | .error er, got => exact hx pins σ _ _ er s' I2 got
  | .ok (.ret u), got =>
    obtain ⟨r, H2, os2, bare2, un2, ok2, rv, ev, d, ea, ed, hd1, q2⟩ := got
    subst ev
    obtain ⟨h2, g2, d2, t2, os'⟩ := s'
    exact ⟨rv, mk_end (raises_own T.exc T.ty) I1 le1 grown un2 ok2 os2 bare2 ea ed hd1 q2⟩
end

/-! ### an __init__ that does nothing -/
section
variable {prog : Program} {w : World} {A : Around} {R : Result → Shared → Prop} {s : Shared} {K : PySem.W.Frag}
theorem idle {qual : Str} {st : Stmt} {fI : Addr} {fd : FuncData} {pp : Pos} {x : Value} (inK : K.In s.heap) (lim : s.heap.NoLimit) (F : Fun K "__init__" qual st fI fd) (body : defBody st = [.Pass pp])
    (S : FnScope ["self"] ["self"] (defScope st)) (loc : (defScope st).names.lookup ("self" : Str) = some NameKind.local) (bind : BindsTo s fd ⟨[x], []⟩ [("self", x)]) (room : A.depth < recursionLimit)
    (hq : ∀ h' tk, (∀ b o, s.heap.get? b = some o → h'.get? b = some o) → R (.ok (.ret .none)) { s with heap := h', toks := tk }) :
    codeAny (model prog w) A (.call (.ref fI) ⟨[x], []⟩) R s := by
  obtain ⟨a1, a2, a3, a4, a5, a6, cdv, a8, a9, rfl, found, coded⟩ := F.ex
  refine Att.call_fn inK lim found coded room bind ?_ ?_ S.co S.gen S.kind
  · simp [loc]
  · intro s1 ic
    obtain ⟨h1, tk1, rfl⟩ := ic.toInCall.same
    rw [body]
    refine wpAny_execs_cons (wpAny_Pass ?_)
    exact wpAny_execs_nil (hq h1 tk1 ic.toInCall.keep)
end
section
variable {X : Cx} {f x : Str} {p pos : Pos} {C fI : Addr} {fd : FuncData} {k : Nat}
/-- C(): an exception at a new address -/
def tErr0 (C : Addr) : TE := fun _ H Q => ∀ a, H a = none → Q (.ref a) (upd H a (exo a C none))
def tErrX0 (C : Addr) : L2.St → Hp → XK → Prop := fun _ H Q => Q (.ref C) none H

theorem run0 {pins : List (Addr × Obj)} {σ : L2.St} {H : Hp} {s : Shared} {qual : Str} {st : Stmt} {pp : Pos} {Q : Value → Shared → Prop} {E : Value → Shared → Prop} (T : ErrC X.K C) (iC : PySem.W.findIn X.K (.ref C) "__init__" = some (some (.ref fI))) (tI : PySem.W.typeIn X.K (.ref fI) = some (.type "function"))
    (F : Fun X.K "__init__" qual st fI fd) (body : defBody st = [.Pass pp]) (S : FnScope ["self"] ["self"] (defScope st)) (loc : (defScope st).names.lookup ("self" : Str) = some NameKind.local) (bind : ∀ (s : Shared) (v : Value), BindsTo s fd ⟨[v], []⟩ [("self", v)]) (room : Room 1 X.A) (I : Inv X pins σ H s)
    (hq : ∀ h' tk t0, (∀ b o, s.heap.get? b = some o → h'.get? b = some o) → h'.get? (s.heap.objs.size + 1) = some (PySem.HandSPX.excO C t0) → s.heap.get? t0 = none → h'.get? t0 = some (PySem.W.kdv_tup []) → Q (.ref (s.heap.objs.size + 1)) { s with heap := h', toks := tk }) :
    wpAny (model X.prog X.w) X.A (call (.ref C) []) Q E s := by
  obtain ⟨B, newId, initId, bmB, nm, q, N, bs, bm, sn, sub, ab, col, dd, k0, k1, k2, k3, k5, FB, ch, atC⟩ := T.new
  have lim := I.nolimit
  have inK := I.kIn
  obtain ⟨hp, g, dr, tk, os⟩ := s
  have grown : ∀ b o, hp.get? b = some o → ((hp.push (PySem.W.kdv_tup [])).push (PySem.HandSPX.excO C hp.objs.size)).get? b = some o :=
    fun b o z => Heap.get?_push_of_some _ (Heap.get?_push_of_some _ z)
  have made : ((hp.push (PySem.W.kdv_tup [])).push (PySem.HandSPX.excO C hp.objs.size)).get? (hp.objs.size + 1) = some (PySem.HandSPX.excO C hp.objs.size) := by heap_get
  have made2 : ((hp.push (PySem.W.kdv_tup [])).push (PySem.HandSPX.excO C hp.objs.size)).get? hp.objs.size = some (PySem.W.kdv_tup []) := by heap_get
  apply wpAny_call
  refine PySem.WbE.callE (iv := .ref fI) FB ch (inK _ _ atC) (PySem.W.looks_findIn inK iC) (fun self => PySem.W.bind_fn inK self tI) (by rw [sizeLine_eq]; simp) ?_
  refine idle (s := ⟨(hp.push (PySem.W.kdv_tup [])).push (PySem.HandSPX.excO C hp.objs.size), g, dr, tk, os⟩) (inK.keeps grown) (lim.keeps grown) F body S loc (bind _ _) ?_ ?_
  · have := (room.make C [] [] (k := 0)).depth
    exact this
  · intro h' tk' kept
    exact ⟨rfl, hq h' tk' hp.objs.size (fun b o z => kept b o (grown b o z)) (kept _ _ made) (Heap.get?_none_of_le (Nat.le_refl _)) (kept _ _ made2)⟩

theorem pe_err0 {qual : Str} {st : Stmt} {pp : Pos} (T : ErrC X.K C) (iC : PySem.W.findIn X.K (.ref C) "__init__" = some (some (.ref fI))) (tI : PySem.W.typeIn X.K (.ref fI) = some (.type "function"))
    (F : Fun X.K "__init__" qual st fI fd) (body : defBody st = [.Pass pp]) (S : FnScope ["self"] ["self"] (defScope st)) (loc : (defScope st).names.lookup ("self" : Str) = some NameKind.local) (bind : ∀ (s : Shared) (v : Value), BindsTo s fd ⟨[v], []⟩ [("self", v)]) (room : Room 1 X.A)
    (hg : Gl X x) (hm : X.mg x = some (.ref C)) (hdb : (x == ("__debug__" : Str)) = false := by decide) : PE X (.Call (.Name x p) [] [] pos) (tErr0 C) := by
  constructor
  intro pins s σ H Q I h
  apply wpAny_Call_Name_kw
  apply ld_glob I hg hm _ hdb
  refine PySem.W.callWith_K0 I.kIn T.kp ?_
  refine run0 T iC tI F body S loc bind room I ?_
  intro h' tk t0 kept made _ _
  exact ⟨.ref _, _, I.laid (t' := tk) kept (Nat.le_succ _) (exo_ok made), rfl, h _ (I.hok.fresh (Nat.le_succ _))⟩

theorem pmk_err0 {qual : Str} {st : Stmt} {pp : Pos} (T : ErrC X.K C) (iC : PySem.W.findIn X.K (.ref C) "__init__" = some (some (.ref fI))) (tI : PySem.W.typeIn X.K (.ref fI) = some (.type "function"))
    (F : Fun X.K "__init__" qual st fI fd) (body : defBody st = [.Pass pp]) (S : FnScope ["self"] ["self"] (defScope st)) (loc : (defScope st).names.lookup ("self" : Str) = some NameKind.local) (bind : ∀ (s : Shared) (v : Value), BindsTo s fd ⟨[v], []⟩ [("self", v)]) (room : Room 1 X.A)
    (hg : Gl X x) (hm : X.mg x = some (.ref C)) (hdb : (x == ("__debug__" : Str)) = false := by decide) : PMk X (.Call (.Name x p) [] [] pos) (tErrX0 C) := by
  intro pins s σ H Q I h
  apply wpAny_Call_Name_kw
  apply ld_glob I hg hm _ hdb
  refine PySem.W.callWith_K0 I.kIn T.kp ?_
  refine run0 T iC tI F body S loc bind room I ?_
  intro h' tk t0 kept made fr madeT
  have mexc : Heap.MadeExcOf s.heap h' (s.heap.objs.size + 1) (.ref C) [] := ⟨kept, Heap.get?_none_of_le (Nat.le_succ _), t0, made, fr, madeT⟩
  have J : Inv X pins σ H { s with toks := tk } := I.tok tk
  exact mk_of (s := { s with toks := tk }) J mexc (raises_own T.exc T.ty) h (I.hok.fresh (Nat.le_succ _))

/-- a class without own __init__: C() -/
theorem pe_errB {B newId initId : String} {bmB : List Value} (T : ErrC X.K C) (FB : PySem.ExcBaseFacts B newId initId bmB) (iC : PySem.W.findIn X.K (.ref C) "__init__" = some (some (.builtin initId)))
    (new : ∃ (nm q : Str) (N : Addr) (bs bm : List Value) (sn : List Str) (sub : List Value) (ab : Bool) (col : Option Bool) (dd : Option Addr) (k0 k1 k2 k3 k5 : Option Value),
      X.K.lookup C = some (excClassObj nm q C N bs bm true sn sub ab col dd k0 k1 k2 k3 k5 newId) ∧ PySem.WbE.Chain bm B ∧ ∀ X : String, bm.contains (.type X) = bmB.contains (.type X))
    (hg : Gl X x) (hm : X.mg x = some (.ref C)) (hdb : (x == ("__debug__" : Str)) = false := by decide) : PE X (.Call (.Name x p) [] [] pos) (tErr0 C) := by
  obtain ⟨nm, q, N, bs, bm, sn, sub, ab, col, dd, k0, k1, k2, k3, k5, atC, ch, hT⟩ := new
  constructor
  intro pins s σ H Q I h
  apply wpAny_Call_Name_kw
  apply ld_glob I hg hm _ hdb
  refine PySem.W.callWith_K0 I.kIn T.kp ?_
  show wpAny _ _ (call (.ref C) []) _ _ _
  have inK := I.kIn
  have fr := I.hok.fresh (a := s.heap.objs.size + 1) (Nat.le_succ _)
  obtain ⟨hp, g, dr, tk, os⟩ := s
  have grown : ∀ b o, hp.get? b = some o → ((hp.push (PySem.W.kdv_tup [])).push (PySem.HandSPX.excO C hp.objs.size)).get? b = some o :=
    fun b o z => Heap.get?_push_of_some _ (Heap.get?_push_of_some _ z)
  have made : ((hp.push (PySem.W.kdv_tup [])).push (PySem.HandSPX.excO C hp.objs.size)).get? (hp.objs.size + 1) = some (PySem.HandSPX.excO C hp.objs.size) := by heap_get
  apply wpAny_call
  refine PySem.WbE.callE (iv := .builtin initId) FB ch (inK _ _ atC) (PySem.W.looks_findIn inK iC) (fun self => ?_) (by rw [sizeLine_eq]; simp) ?_
  · rw [FB.init.bind self]
    exact .now
  · refine PySem.HandSPX.init_base FB hT (grown _ _ (inK _ _ atC)) made (by rw [sizeLine_eq]; simp) ?_
    intro h' t1 kept now
    have old : ∀ b o, hp.get? b = some o → h'.get? b = some o := fun b o z => kept b o (Nat.ne_of_lt (Nat.lt_succ_of_lt (Heap.lt_size z))) (grown b o z)
    exact ⟨rfl, .ref _, _, I.laid (t' := tk) old (Nat.le_succ _) (exo_ok now), rfl, h _ fr⟩
end
end Wb

set_option Elab.async false
set_option linter.all false
set_option maxRecDepth 100000
set_option maxHeartbeats 4000000
/-! Wb6: the deal that a law draws from: what is known of it, and what is kept beside it. -/
namespace Wb
open PySem PySem.Spec PyProof.Rows L2

/-- the heap without the deal's two lists -/
def off (H : Hp) (d c : Addr) : Hp := fun b => if b = d ∨ b = c then none else H b
theorem off_at {H : Hp} {d c b : Addr} (h1 : b ≠ d) (h2 : b ≠ c) : off H d c b = H b := if_neg (fun z => z.elim h1 h2)
theorem off_some {H : Hp} {d c b : Addr} {o : HO} (h : off H d c b = some o) : H b = some o ∧ b ≠ d ∧ b ≠ c := by
  unfold off at h
  by_cases e : b = d ∨ b = c
  · rw [if_pos e] at h
    cases h
  · rw [if_neg e] at h
    exact ⟨h, fun z => e (.inl z), fun z => e (.inr z)⟩
theorem off_le (H : Hp) (d c : Addr) : Same (off H d c) H := fun b o h => (off_some h).1
theorem off_mono {H H' : Hp} {d c : Addr} (h : Same H H') : Same (off H d c) (off H' d c) := by
  intro b o z
  obtain ⟨z1, z2, z3⟩ := off_some z
  rw [off_at z2 z3]
  exact h b o z1
theorem off_none {H : Hp} {d c b : Addr} (h : H b = none) : off H d c b = none := by
  unfold off
  split
  · rfl
  · exact h
/-- a new object is kept -/
theorem new_same {H : Hp} {p : Addr} {o : HO} (h : H p = none) : Same H (upd H p o) := fun b u z => by
  rw [upd_ne (ne_of_none z h)]
  exact z
theorem off_new {H : Hp} {d c p : Addr} {o : HO} (h1 : p ≠ d) (h2 : p ≠ c) : off (upd H p o) d c p = some o := by
  rw [off_at h1 h2]
  exact upd_same

/-- the deal: a list at d of the cells' list at c, and a number -/
structure Deal (H : Hp) (d c : Addr) : Prop where
  ex : ∃ (cs : List Int) (mix : Int), H d = some (.lst [.ref c, .int mix]) ∧ H c = some (.lst (cs.map V.int)) ∧ cs.length ≤ 63 ∧ (∀ z ∈ cs, 0 ≤ z) ∧ 0 ≤ mix ∧ mix < 2147483647
theorem Deal.ne {H : Hp} {d c : Addr} (D : Deal H d c) : d ≠ c := by
  obtain ⟨cs, mix, h1, h2, _⟩ := D.ex
  refine ne_of h1 h2 fun z => ?_
  have z2 : [V.ref c, V.int mix] = cs.map V.int := HO.lst.inj z
  cases cs with
  | nil => cases z2
  | cons a r => cases z2
theorem Deal.same {H H' : Hp} {d c : Addr} (D : Deal H d c) (s : Same H H') : Deal H' d c := by
  obtain ⟨cs, mix, h1, h2, h3⟩ := D.ex
  exact ⟨cs, mix, s _ _ h1, s _ _ h2, h3⟩
/-- a free address is none of the deal's -/
theorem Deal.free {H : Hp} {d c p : Addr} (D : Deal H d c) (h : H p = none) : p ≠ d ∧ p ≠ c := by
  obtain ⟨cs, mix, h1, h2, h3⟩ := D.ex
  exact ⟨(ne_of_none h1 h).symm, (ne_of_none h2 h).symm⟩
/-- the deal's own lists changed: all else is kept -/
theorem off_dc {H : Hp} {d c : Addr} {o u : HO} : off (upd (upd H c o) d u) d c = off H d c := by
  funext b
  unfold off
  by_cases e : b = d ∨ b = c
  · rw [if_pos e, if_pos e]
  · rw [if_neg e, if_neg e, upd_ne (fun z => e (.inl z)), upd_ne (fun z => e (.inr z))]
theorem off_c {H : Hp} {d c : Addr} {o : HO} : off (upd H c o) d c = off H d c := by
  funext b
  unfold off
  by_cases e : b = d ∨ b = c
  · rw [if_pos e, if_pos e]
  · rw [if_neg e, if_neg e, upd_ne (fun z => e (.inr z))]
theorem off_d {H : Hp} {d c : Addr} {o : HO} : off (upd H d o) d c = off H d c := by
  funext b
  unfold off
  by_cases e : b = d ∨ b = c
  · rw [if_pos e, if_pos e]
  · rw [if_neg e, if_neg e, upd_ne (fun z => e (.inl z))]

theorem seqT {K : PySem.W.Frag} {H H' : Hp} {a : Addr} {xs : List V} (e : Same H H') (h : SqT K H a xs) : SqT K H' a xs := by
  rcases h with (h | ⟨o, h⟩) | h
  · exact Or.inl (Or.inl (e _ _ h))
  · exact Or.inl (Or.inr ⟨o, e _ _ h⟩)
  · exact Or.inr h
/-- an item at a place drawn -/
theorem item_at {xs : List V} {r : Int} (h0 : 0 ≤ r) (h1 : r < (xs.length : Int)) : ∃ v, v ∈ xs ∧ atI xs r = some v := by
  obtain ⟨j, rfl⟩ := Int.eq_ofNat_of_zero_le h0
  have hj : j < xs.length := by omega
  exact ⟨xs[j], List.getElem_mem hj, atI_nat (List.getElem?_eq_getElem hj)⟩
theorem nil_or_last {α : Type} (l : List α) : l = [] ∨ ∃ ini z, l = ini ++ [z] := by
  cases l with
  | nil => exact .inl rfl
  | cons a r => exact .inr ⟨(a :: r).dropLast, (a :: r).getLast (by simp), (List.dropLast_concat_getLast (by simp)).symm⟩
/-- one statement and the rest, what is known between them said apart -/
theorem seqI {t1 t2 : TS} {D : Ends} {σ : L2.St} {H : Hp} (Ex : L2.St → Hp → Prop) (rest : ∀ σ' H', Ex σ' H' → t2 D σ' H')
    (first : ∀ Z : L2.St → Hp → Prop, (∀ σ' H', Ex σ' H' → Z σ' H') → t1 { D with nx := Z } σ H) : tSeq t1 t2 D σ H :=
  first _ rest
/-- a while by an invariant, a measure, and what is known at its end; what follows is asked apart -/
theorem whileI {c : TT} {tb : TS} {D : Ends} {σ : L2.St} {H : Hp} (I Ex : L2.St → Hp → Prop) (m : L2.St → Hp → Nat) (h0 : I σ H) (rest : ∀ σ H, Ex σ H → D.nx σ H)
    (step : ∀ σ H, I σ H → ∀ Y Z : Hp → Prop,
      (∀ H1, tb { D with nx := fun σ' H' => I σ' H' ∧ m σ' H' < m σ H, ct := fun σ' H' => I σ' H' ∧ m σ' H' < m σ H, bk := D.nx } σ H1 → Y H1) → (∀ H1, Ex σ H1 → Z H1) →
      c σ H fun b H1 => if b = true then Y H1 else Z H1) : tWhile c tb D σ H := by
  refine ⟨fun k σ H => k = m σ H ∧ I σ H, ⟨_, rfl, h0⟩, ?_⟩
  rintro k σ H ⟨rfl, hI⟩
  refine step σ H hI _ _ (fun H1 q => ?_) (fun H1 e => rest σ H1 e)
  exact ⟨_, fun σ' H' ⟨p', l⟩ => ⟨_, l, rfl, p'⟩, q⟩

/-- _law_any(deal, bound): some number below the bound; the deal is one again, all else is kept -/
def spAny : Sp := fun vs H Q _ => ∃ (d c : Addr) (bound : Int), vs = [.ref d, .int bound] ∧ Deal H d c ∧ 0 < bound ∧ bound < 2 ^ 300 ∧
  ∀ (r : Int) (H' : Hp), 0 ≤ r → r < bound → Deal H' d c → Same (off H d c) (off H' d c) → Q (.int r) H'
/-- _law_of(deal, some): some item of a list, of a tuple, or a sign of a text -/
def spOf (K : PySem.W.Frag) : Sp := fun vs H Q _ => ∃ (d c : Addr) (x : V), vs = [.ref d, x] ∧ Deal H d c ∧
  ((∃ (p : Addr) (xs : List V), x = .ref p ∧ SqL K (off H d c) p xs ∧ xs ≠ [] ∧ xs.length ≤ 1000 ∧ ∀ (v : V) (H' : Hp), v ∈ xs → Deal H' d c → Same (off H d c) (off H' d c) → Q v H') ∨
   (∃ (p : Addr) (xs : List V), x = .ref p ∧ SqT K (off H d c) p xs ∧ xs ≠ [] ∧ xs.length ≤ 1000 ∧ ∀ (v : V) (H' : Hp), v ∈ xs → Deal H' d c → Same (off H d c) (off H' d c) → Q v H') ∨
   (∃ z : Str, x = .str z ∧ 0 < z.length ∧ z.length ≤ 1000 ∧ ∀ (a : Nat) (H' : Hp), a ∈ z.cps.toList → Deal H' d c → Same (off H d c) (off H' d c) → Q (.str ⟨#[a]⟩) H'))
/-- _law_deal(script, base): a new deal -/
def spDeal (K : PySem.W.Frag) : Sp := fun vs H Q _ => ∃ (a : Addr) (ns : List Int) (b : Int), vs = [.ref a, .int b] ∧ SqL K H a (ns.map V.int) ∧ ns.length ≤ 63 ∧ 0 ≤ b ∧ b ≤ 1000 ∧
  ∀ (d c : Addr) (H' : Hp), H d = none → H c = none → Deal H' d c → Same H H' → Q (.ref d) H'
end Wb

set_option Elab.async false
set_option linter.all false
set_option maxRecDepth 100000
set_option maxHeartbeats 4000000
/-! Wb7: data that is all new; how large it is shown. -/
namespace Wb
open PySem PySem.Spec PyProof.Rows L2

/-- what stands in H' and was free in H -/
def nw (H H' : Hp) : Hp := fun b => if H b = none then H' b else none
theorem nw_at {H H' : Hp} {b : Addr} (h : H b = none) : nw H H' b = H' b := if_pos h
theorem nw_some {H H' : Hp} {b : Addr} {o : HO} (h : nw H H' b = some o) : H b = none ∧ H' b = some o := by
  unfold nw at h
  by_cases e : H b = none
  · rw [if_pos e] at h
    exact ⟨e, h⟩
  · rw [if_neg e] at h
    cases h
theorem nw_le (H H' : Hp) : Same (nw H H') H' := fun b o h => (nw_some h).2
/-- every address that is taken stays taken -/
def Dom (H H' : Hp) : Prop := ∀ b, H' b = none → H b = none
theorem Dom.refl (H : Hp) : Dom H H := fun _ h => h
theorem Dom.trans {H G J : Hp} (a : Dom H G) (b : Dom G J) : Dom H J := fun x h => a x (b x h)
theorem Dom.of {H H' : Hp} (s : Same H H') : Dom H H' := fun b h => s.free h
theorem Dom.deal {H H' : Hp} {d c : Addr} (s : Same (off H d c) (off H' d c)) (D : Deal H' d c) : Dom H H' := by
  intro b h
  obtain ⟨n1, n2⟩ := D.free h
  have q : off H' d c b = none := (off_at n1 n2).trans h
  have z := s.free q
  rwa [off_at n1 n2] at z
/-- new since later is new since earlier; and it is kept where all but the deal is -/
theorem nw_mono {H0 H G G' : Hp} {d c : Addr} (a : Dom H0 H) (D : Deal H d c) (s : Same (off G d c) (off G' d c)) : Same (nw H G) (nw H0 G') := by
  intro b o h
  obtain ⟨h1, h2⟩ := nw_some h
  obtain ⟨n1, n2⟩ := D.free h1
  rw [nw_at (a b h1)]
  have q := s b o (by rw [off_at n1 n2]; exact h2)
  exact (off_some q).1
theorem nw_off {H G : Hp} {d c : Addr} (D : Deal H d c) : Same (nw H G) (off G d c) := by
  intro b o h
  obtain ⟨h1, h2⟩ := nw_some h
  obtain ⟨n1, n2⟩ := D.free h1
  rw [off_at n1 n2]
  exact h2
theorem nw_upd {H G : Hp} {p : Addr} {o : HO} (h : H p ≠ none) : nw H (upd G p o) = nw H G := by
  funext b
  unfold nw
  by_cases e : H b = none
  · rw [if_pos e, if_pos e, upd_ne (fun z => h (by rw [← z]; exact e))]
  · rw [if_neg e, if_neg e]

mutual
theorem dpMono {K : PySem.W.Frag} {H H' : Hp} (s : Same H H') : ∀ (d : PyData) (v : V), Dp K H v d → Dp K H' v d
  | .none, _, h => by
    cases h
    exact .non
  | .bool b, _, h => by
    cases h
    exact .bl b
  | .int i, _, h => by
    cases h
    exact .int i
  | .str x, _, h => by
    cases h
    exact .str x
  | .list ds, _, h => by
    cases h with
    | lst h1 h2 => exact .lst (s.seq h1) (dpMonoAll s ds _ h2)
  | .tuple ds, _, h => by
    cases h with
    | tup h1 h2 => exact .tup (seqT s h1) (dpMonoAll s ds _ h2)
  | .dict _, _, h => by cases h
theorem dpMonoAll {K : PySem.W.Frag} {H H' : Hp} (s : Same H H') : ∀ (ds : List PyData) (vs : List V), DpAll K H vs ds → DpAll K H' vs ds
  | [], _, h => by
    cases h
    exact .nil
  | d :: ds, _, h => by
    cases h with
    | cons h1 h2 => exact .cons (dpMono s d _ h1) (dpMonoAll s ds _ h2)
end
theorem dpAll_snoc {K : PySem.W.Frag} {H : Hp} {v : V} {e : PyData} (h : Dp K H v e) : ∀ {vs : List V} {es : List PyData}, DpAll K H vs es → DpAll K H (vs ++ [v]) (es ++ [e])
  | _, _, .nil => .cons h .nil
  | _, _, .cons h1 h2 => .cons h1 (dpAll_snoc h h2)
theorem dpAll_len {K : PySem.W.Frag} {H : Hp} : ∀ {vs : List V} {es : List PyData}, DpAll K H vs es → vs.length = es.length
  | _, _, .nil => rfl
  | _, _, .cons _ h2 => by simp [dpAll_len h2]
theorem dpAll_mem {K : PySem.W.Frag} {H : Hp} : ∀ {vs : List V} {es : List PyData} {v : V}, DpAll K H vs es → v ∈ vs → ∃ e, e ∈ es ∧ Dp K H v e
  | _, _, _, .nil, h => nomatch h
  | _, _, v, .cons h1 h2, h => by
    rcases List.mem_cons.mp h with rfl | h
    · exact ⟨_, List.mem_cons_self, h1⟩
    · obtain ⟨e, q1, q2⟩ := dpAll_mem h2 h
      exact ⟨e, List.mem_cons_of_mem _ q1, q2⟩

/-- what may be shown: n deep, of a weight W -/
structure Tame (n W : Nat) (e : PyData) : Prop where
  shows : e.showable = true
  noDict : e.hasDict = false
  deep : e.depth ≤ n
  short : e.leavesShort 13 = true
  light : e.weight ≤ W
theorem Tame.fits {n W : Nat} {e : PyData} (t : Tame n W e) (h : W ≤ 1000000) : e.shown.length ≤ sizeLine := by
  have q := PyData.shown_le 13 (by decide) e t.short
  have l := t.light
  rw [sizeLine_eq]
  omega
theorem Tame.more {n m W Z : Nat} {e : PyData} (t : Tame n W e) (h1 : n ≤ m) (h2 : W ≤ Z) : Tame m Z e :=
  ⟨t.shows, t.noDict, Nat.le_trans t.deep h1, t.short, Nat.le_trans t.light h2⟩
structure TameAll (n W : Nat) (es : List PyData) : Prop where
  shows : PyData.showableAll es = true
  noDict : PyData.hasDictAll es = false
  deep : PyData.depthAll es ≤ n
  short : PyData.leavesShortAll 13 es = true
  light : PyData.weightAll es ≤ es.length * (W + 1)
theorem TameAll.nil {n W : Nat} : TameAll n W [] := ⟨by simp [PyData.showableAll], by simp [PyData.hasDictAll], by simp [PyData.depthAll], by simp [PyData.leavesShortAll], by simp [PyData.weightAll]⟩
theorem TameAll.cons {n W : Nat} {e : PyData} {es : List PyData} (t : Tame n W e) (h : TameAll n W es) : TameAll n W (e :: es) := by
  obtain ⟨a1, a2, a3, a4, a5⟩ := t
  obtain ⟨b1, b2, b3, b4, b5⟩ := h
  refine ⟨by simp [PyData.showableAll, a1, b1], by simp [PyData.hasDictAll, a2, b2], ?_, by simp [PyData.leavesShortAll, a4, b4], ?_⟩
  · simp only [PyData.depthAll]
    exact Nat.max_le.mpr ⟨a3, b3⟩
  · simp only [PyData.weightAll, List.length_cons, Nat.succ_mul]
    omega
theorem TameAll.of {n W : Nat} : ∀ {es : List PyData}, (∀ e ∈ es, Tame n W e) → TameAll n W es
  | [], _ => .nil
  | e :: es, h => .cons (h e List.mem_cons_self) (TameAll.of fun x hx => h x (List.mem_cons_of_mem _ hx))
theorem TameAll.list {n W k : Nat} {es : List PyData} (h : TameAll n W es) (few : es.length ≤ k) : Tame (n + 1) (k * (W + 1)) (.list es) := by
  obtain ⟨b1, b2, b3, b4, b5⟩ := h
  refine ⟨by simpa [PyData.showable] using b1, by simpa [PyData.hasDict] using b2, ?_, by simpa [PyData.leavesShort] using b4, ?_⟩
  · simp only [PyData.depth]
    omega
  · simp only [PyData.weight]
    exact Nat.le_trans b5 (Nat.mul_le_mul_right _ few)
theorem TameAll.tuple {n W k : Nat} {es : List PyData} (h : TameAll n W es) (few : es.length ≤ k) : Tame (n + 1) (k * (W + 1)) (.tuple es) := by
  obtain ⟨b1, b2, b3, b4, b5⟩ := h
  refine ⟨by simpa [PyData.showable] using b1, by simpa [PyData.hasDict] using b2, ?_, by simpa [PyData.leavesShort] using b4, ?_⟩
  · simp only [PyData.depth]
    omega
  · simp only [PyData.weight]
    exact Nat.le_trans b5 (Nat.mul_le_mul_right _ few)
theorem tame_none : Tame 0 40 .none := ⟨by decide +kernel, by decide +kernel, by decide +kernel, by decide +kernel, by decide +kernel⟩
theorem tame_bool (b : Bool) : Tame 0 40 (.bool b) := by cases b <;> exact ⟨by decide +kernel, by decide +kernel, by decide +kernel, by decide +kernel, by decide +kernel⟩
theorem log2_small {i : Int} (h : i.natAbs < 10 ^ 12) : i.natAbs.log2 ≤ 39 := by
  by_cases z : i.natAbs = 0
  · rw [z]
    decide
  · have := (Nat.log2_lt z (k := 40)).mpr (Nat.lt_trans h (by decide))
    omega
theorem tame_int {i : Int} (h : i.natAbs < 10 ^ 12) : Tame 0 40 (.int i) := by
  have l := log2_small h
  refine ⟨?_, by simp [PyData.hasDict], by simp [PyData.depth], ?_, ?_⟩
  · simp only [PyData.showable, decide_eq_true_eq]
    omega
  · simp only [PyData.leavesShort, decide_eq_true_eq]
    exact PyData.shown_int_le h
  · simp only [PyData.weight]
    split <;> omega
theorem tame_str {x : Str} (h : ∀ a ∈ x.cps.toList, a < 16 ^ 8) (few : x.length ≤ 40) : Tame 0 40 (.str x) := by
  refine ⟨by simp [PyData.showable], by simp [PyData.hasDict], by simp [PyData.depth], ?_, ?_⟩
  · simp only [PyData.leavesShort, List.all_eq_true, decide_eq_true_eq]
    exact h
  · simp only [PyData.weight]
    exact few

/-- signs glued -/
theorem glued (L : List Nat) : ∀ ys : List Str, (∀ y ∈ ys, ∃ a ∈ L, y = ⟨#[a]⟩) → (Str.join (Str.ofString "") ys).length = ys.length ∧ ∀ a ∈ (Str.join (Str.ofString "") ys).cps.toList, a ∈ L
  | [], _ => ⟨by decide, fun a ha => by
    have e : (Str.join (Str.ofString "") []).cps.toList = [] := by decide
    rw [e] at ha
    cases ha⟩
  | [y], h => by
    obtain ⟨a, ha, rfl⟩ := h y List.mem_cons_self
    refine ⟨rfl, fun b hb => ?_⟩
    have hb' : b ∈ [a] := hb
    rw [List.mem_singleton.mp hb']
    exact ha
  | y :: z :: r, h => by
    obtain ⟨a, ha, rfl⟩ := h y List.mem_cons_self
    obtain ⟨i1, i2⟩ := glued L (z :: r) fun x hx => h x (List.mem_cons_of_mem _ hx)
    have e : Str.join (Str.ofString "") (⟨#[a]⟩ :: z :: r) = (⟨#[a]⟩ ++ Str.ofString "") ++ Str.join (Str.ofString "") (z :: r) := rfl
    rw [e]
    refine ⟨?_, fun b hb => ?_⟩
    · rw [strLen_append, strLen_append, i1]
      have e1 : (Str.ofString "").length = 0 := by decide
      have e2 : (⟨#[a]⟩ : Str).length = 1 := rfl
      rw [e1, e2]
      simp
      omega
    · rw [cps_toList_append, cps_toList_append] at hb
      have e1 : (Str.ofString "").cps.toList = [] := by decide
      rw [e1, List.append_nil] at hb
      rcases List.mem_append.mp hb with q | q
      · have q' : b ∈ [a] := q
        rw [List.mem_singleton.mp q']
        exact ha
      · exact i2 b q
end Wb

namespace Wf
/-- how a top and a bottom are brought down -/
theorem frac_val (t b : Int) (hb : b ≠ 0) : ∀ c : Int, c = (if b < 0 then -((Nat.gcd t.natAbs b.natAbs : Nat) : Int) else ((Nat.gcd t.natAbs b.natAbs : Nat) : Int)) →
    c ≠ 0 ∧ t.fdiv c = (Rat.divInt t b).num ∧ b.fdiv c = ((Rat.divInt t b).den : Int) := by
  intro c hc
  have gp : 0 < Nat.gcd t.natAbs b.natAbs := Nat.gcd_pos_of_pos_right _ (Int.natAbs_pos.mpr hb)
  generalize hg : Nat.gcd t.natAbs b.natAbs = g at *
  have dt : (g : Int) ∣ t := Int.natAbs_dvd_natAbs.mp (by rw [Int.natAbs_natCast, ← hg]; exact Nat.gcd_dvd_left _ _)
  have db : (g : Int) ∣ b := Int.natAbs_dvd_natAbs.mp (by rw [Int.natAbs_natCast, ← hg]; exact Nat.gcd_dvd_right _ _)
  have e1 : (Rat.divInt t b).num = b.sign * t / g := by
    rw [Rat.num_divInt]
    have : b.gcd t = g := by rw [← hg, Nat.gcd_comm]; rfl
    rw [this]
  have e2 : ((Rat.divInt t b).den : Int) = (b.natAbs : Int) / (g : Int) := by
    rw [Rat.den_divInt, if_neg hb]
    have : b.gcd t = g := by rw [← hg, Nat.gcd_comm]; rfl
    rw [this, Int.natCast_ediv]
  obtain ⟨x, rfl⟩ := dt
  obtain ⟨y, rfl⟩ := db
  have g0 : (g : Int) ≠ 0 := by omega
  rw [e1, e2]
  by_cases neg : (g : Int) * y < 0
  · rw [if_pos neg] at hc
    subst hc
    have s : ((g : Int) * y).sign = -1 := Int.sign_eq_neg_one_of_neg neg
    have n : (((g : Int) * y).natAbs : Int) = (g : Int) * -y := by
      have := Int.ofNat_natAbs_of_nonpos (Int.le_of_lt neg)
      rw [this, Int.mul_neg]
    refine ⟨by omega, ?_, ?_⟩
    · rw [s]
      have : -1 * ((g : Int) * x) = (g : Int) * -x := by rw [Int.mul_neg]; omega
      rw [this, Int.mul_ediv_cancel_left _ g0]
      exact Int.fdiv_eq_of_eq_mul_right (by omega) (by rw [Int.neg_mul_neg])
    · rw [n, Int.mul_ediv_cancel_left _ g0]
      exact Int.fdiv_eq_of_eq_mul_right (by omega) (by rw [Int.neg_mul_neg])
  · rw [if_neg neg] at hc
    subst hc
    have pos : 0 < (g : Int) * y := by omega
    have s : ((g : Int) * y).sign = 1 := Int.sign_eq_one_of_pos pos
    have n : (((g : Int) * y).natAbs : Int) = (g : Int) * y := Int.natAbs_of_nonneg (Int.le_of_lt pos)
    refine ⟨g0, ?_, ?_⟩
    · rw [s, Int.one_mul, Int.mul_ediv_cancel_left _ g0]
      exact Int.fdiv_eq_of_eq_mul_right g0 rfl
    · rw [n, Int.mul_ediv_cancel_left _ g0]
      exact Int.fdiv_eq_of_eq_mul_right g0 rfl
/-- the same for a bottom above 0, by the other division -/
theorem low_val (t b : Int) (hb : 0 < b) : t / ((Nat.gcd t.natAbs b.natAbs : Nat) : Int) = (Rat.divInt t b).num ∧ b / ((Nat.gcd t.natAbs b.natAbs : Nat) : Int) = ((Rat.divInt t b).den : Int) := by
  obtain ⟨_, h1, h2⟩ := frac_val t b (by omega) _ (if_neg (by omega)).symm
  rw [Int.fdiv_eq_ediv_of_nonneg _ (Int.natCast_nonneg _)] at h1 h2
  exact ⟨h1, h2⟩
theorem add_val (p q : Rat) : Rat.divInt (p.num * q.den + q.num * p.den) (p.den * q.den) = p + q := by
  rw [Rat.add_def', ← Rat.divInt_ofNat, Int.natCast_mul]
theorem sub_val (p q : Rat) : Rat.divInt (p.num * q.den - q.num * p.den) (p.den * q.den) = p - q := by
  rw [Rat.sub_def', ← Rat.divInt_ofNat, Int.natCast_mul]
theorem mul_val (p q : Rat) : Rat.divInt (p.num * q.num) (p.den * q.den) = p * q := by
  rw [Rat.mul_def', ← Rat.divInt_ofNat, Int.natCast_mul]
theorem div_val (p q : Rat) : Rat.divInt (p.num * q.den) (p.den * q.num) = p / q := by
  rw [Rat.div_def, Rat.inv_def, ← Rat.divInt_mul_divInt, Rat.num_divInt_den]
theorem neg_divInt (t b : Int) : Rat.divInt (0 - t) (0 - b) = Rat.divInt t b := by
  rw [Int.zero_sub, Int.zero_sub, Rat.neg_divInt_neg]
/-- how long tops and bottoms are -/
structure Sz (k : Nat) (q : Rat) : Prop where
  top : q.num.natAbs < 2 ^ k
  bot : q.den < 2 ^ k
theorem Sz.mono {j k : Nat} {q : Rat} (h : Sz j q) (l : j ≤ k) : Sz k q :=
  ⟨Nat.lt_of_lt_of_le h.top (Nat.pow_le_pow_right (by decide) l), Nat.lt_of_lt_of_le h.bot (Nat.pow_le_pow_right (by decide) l)⟩
theorem sz_divInt {t b : Int} {k : Nat} (hb : b ≠ 0) (h1 : t.natAbs < 2 ^ k) (h2 : b.natAbs < 2 ^ k) : Sz k (Rat.divInt t b) := by
  have gp : 0 < b.gcd t := Int.gcd_pos_of_ne_zero_left _ hb
  constructor
  · rw [Rat.num_divInt]
    have : (b.sign * t / (b.gcd t : Int)).natAbs ≤ (b.sign * t).natAbs := by
      exact Int.natAbs_ediv_le_natAbs _ _
    rw [Int.natAbs_mul, Int.natAbs_sign_of_ne_zero hb, Nat.one_mul] at this
    omega
  · rw [Rat.den_divInt, if_neg hb]
    exact Nat.lt_of_le_of_lt (Nat.div_le_self _ _) h2
theorem lt_mul {a b j k : Nat} (h1 : a < 2 ^ j) (h2 : b < 2 ^ k) : a * b < 2 ^ (j + k) := by
  rw [Nat.pow_add]
  exact Nat.mul_lt_mul'' h1 h2
theorem Sz.add {j k : Nat} {p q : Rat} (h1 : Sz j p) (h2 : Sz k q) : Sz (j + k + 1) (p + q) := by
  rw [← add_val]
  have a := lt_mul h1.top h2.bot
  have b := lt_mul h2.top h1.bot
  have c := lt_mul h1.bot h2.bot
  have e : 2 ^ (j + k + 1) = 2 ^ (j + k) + 2 ^ (j + k) := by rw [Nat.pow_succ]; omega
  rw [Nat.add_comm k j] at b
  have hd : (p.den : Int) * q.den ≠ 0 := by
    have := p.den_pos; have := q.den_pos
    exact Int.mul_ne_zero (by omega) (by omega)
  refine sz_divInt hd ?_ ?_
  · have := Int.natAbs_add_le (p.num * q.den) (q.num * p.den)
    rw [Int.natAbs_mul, Int.natAbs_mul, Int.natAbs_natCast, Int.natAbs_natCast] at this
    omega
  · rw [Int.natAbs_mul, Int.natAbs_natCast, Int.natAbs_natCast]
    omega
theorem Sz.neg {k : Nat} {p : Rat} (h : Sz k p) : Sz k (-p) := ⟨by rw [Rat.neg_num, Int.natAbs_neg]; exact h.top, h.bot⟩
theorem Sz.sub {j k : Nat} {p q : Rat} (h1 : Sz j p) (h2 : Sz k q) : Sz (j + k + 1) (p - q) := by
  rw [Rat.sub_eq_add_neg]
  exact h1.add h2.neg
theorem Sz.mul {j k : Nat} {p q : Rat} (h1 : Sz j p) (h2 : Sz k q) : Sz (j + k) (p * q) := by
  rw [← mul_val]
  have a := lt_mul h1.top h2.top
  have c := lt_mul h1.bot h2.bot
  have hd : (p.den : Int) * q.den ≠ 0 := by
    have := p.den_pos; have := q.den_pos
    exact Int.mul_ne_zero (by omega) (by omega)
  refine sz_divInt hd ?_ ?_
  · rw [Int.natAbs_mul]; exact a
  · rw [Int.natAbs_mul, Int.natAbs_natCast, Int.natAbs_natCast]; exact c
theorem Sz.div {j k : Nat} {p q : Rat} (h1 : Sz j p) (h2 : Sz k q) (h : q ≠ 0) : Sz (j + k) (p / q) := by
  rw [← div_val]
  have a := lt_mul h1.top h2.bot
  have c := lt_mul h1.bot h2.top
  have hd : (p.den : Int) * q.num ≠ 0 := by
    have := p.den_pos
    exact Int.mul_ne_zero (by omega) (fun e => h (Rat.num_eq_zero.mp e))
  refine sz_divInt hd ?_ ?_
  · rw [Int.natAbs_mul, Int.natAbs_natCast]; exact a
  · rw [Int.natAbs_mul, Int.natAbs_natCast]; exact c
/-- 1, 0, -1 -/
def cmpI (x y : Int) : Int := (if x > y then 1 else 0) - (if x < y then 1 else 0)
def cmpR (p q : Rat) : Int := cmpI (p.num * q.den) (q.num * p.den)
theorem cmpR_eq (p q : Rat) : cmpR p q = if q < p then 1 else if p < q then -1 else 0 := by
  unfold cmpR cmpI
  have h1 : (q < p) ↔ p.num * q.den > q.num * p.den := Rat.lt_iff q p
  have h2 : (p < q) ↔ p.num * q.den < q.num * p.den := Rat.lt_iff p q
  by_cases a : q < p
  · have b := h1.mp a
    rw [if_pos a, if_pos b, if_neg (by omega)]
    rfl
  · have b := fun z => a (h1.mpr z)
    rw [if_neg a, if_neg b]
    by_cases c : p < q
    · rw [if_pos c, if_pos (h2.mp c)]; rfl
    · rw [if_neg c, if_neg fun z => c (h2.mpr z)]; rfl
theorem cmp_add (p q r : Rat) : cmpR (p + r) (q + r) = cmpR p q := by
  rw [cmpR_eq, cmpR_eq]
  have h : ∀ x y : Rat, x + r < y + r ↔ x < y := fun x y => by
    constructor <;> intro z <;> grind
  simp only [h]
theorem cmp_sign (r : Rat) : cmpR r 0 = if 0 < r then 1 else if r < 0 then -1 else 0 := cmpR_eq r 0
theorem cmp_mul (p q r : Rat) : cmpR (p * r) (q * r) = cmpR p q * cmpR r 0 := by
  have key : ∀ x y : Rat, 0 < r → (x * r < y * r ↔ x < y) := fun x y h => ⟨fun z => by
    by_cases c : x < y
    · exact c
    · have : 0 ≤ (x - y) * r := Rat.mul_nonneg (by grind) (by grind)
      grind, fun z => by
    have : 0 < (y - x) * r := Rat.mul_pos (by grind) h
    grind⟩
  have key2 : ∀ x y : Rat, r < 0 → (x * r < y * r ↔ y < x) := fun x y h => ⟨fun z => by
    by_cases c : y < x
    · exact c
    · have : 0 ≤ (y - x) * -r := Rat.mul_nonneg (by grind) (by grind)
      grind, fun z => by
    have : 0 < (x - y) * -r := Rat.mul_pos (by grind) (by grind)
    grind⟩
  rw [cmpR_eq, cmpR_eq, cmp_sign]
  by_cases a : 0 < r
  · simp only [key _ _ a, if_pos a, Int.mul_one]
  · by_cases b : r < 0
    · simp only [key2 _ _ b, if_pos b, if_neg a]
      by_cases c : p < q
      · have : ¬ q < p := by grind
        simp [c, this]
      · by_cases d : q < p
        · simp [c, d]
        · simp [c, d]
    · have : r = 0 := by grind
      subst this
      simp
end Wf

set_option Elab.async false
set_option linter.all false
set_option maxRecDepth 100000
set_option maxHeartbeats 4000000
/-! Wf1: what fractions take of the language: // below 0, lcm, calls by names alone, a caught error looked at. -/
namespace Wb
open PySem PySem.Spec PyProof.Rows L2
section
variable {X : Cx}
/-- // by a divisor of either sign -/
def CDivS (_ j : Int) : Prop := j ≠ 0 ∧ j.natAbs.log2 < 9000
theorem op_fdivS : OpR X (binaryOp .FloorDiv) (rI CDivS fun i j => .int (i.fdiv j)) := opI fun i j _ _ _ _ _ hc q => floordiv_int hc.1 q (.inl (PyProof.noPylong_of_log2 hc.2))
def rLcm : List V → Hp → VK → Prop := fun vs H Q => ∃ a b : Int, vs = [.int a, .int b] ∧ a.natAbs < 2 ^ 9000 ∧ b.natAbs < 2 ^ 9000 ∧ Q (.int ((Nat.lcm a.natAbs b.natAbs : Nat) : Int)) H
theorem log_le {n k : Nat} (h : n < 2 ^ k) (h0 : 0 < k) : n.log2 < k := by
  by_cases z : n = 0
  · subst z
    rw [Nat.log2_zero]
    exact h0
  · exact (Nat.log2_lt z).mpr h
theorem cr_lcm : CallR X (.builtin "math.lcm") rLcm := by
  intro pins s σ H vs us Q I r h
  obtain ⟨a, b, rfl, ha, hb, q⟩ := h
  obtain ⟨t, u, rfl⟩ := Vals.int2 r
  have one9 : (1 : Nat) < 2 ^ 9000 := Nat.one_lt_two_pow (by decide)
  have h1 : (max 1 a.natAbs).log2 < 9000 := log_le (Nat.max_lt.mpr ⟨one9, ha⟩) (by decide)
  have h2 : (max a.natAbs b.natAbs).log2 < 9000 := log_le (Nat.max_lt.mpr ⟨ha, hb⟩) (by decide)
  have h3 : (Nat.lcm 1 a.natAbs).lcm b.natAbs = Nat.lcm a.natAbs b.natAbs := by rw [PySem.W.mc_lcm_one]
  have h4 : (Nat.lcm a.natAbs b.natAbs).log2 < 18000 := by
    refine log_le (Nat.lt_of_le_of_lt (PySem.W.mc_lcm_le _ _) ?_) (by decide)
    have e : (18000 : Nat) = 9000 + 9000 := rfl
    rw [e, Nat.pow_add]
    exact Nat.mul_lt_mul'' ha hb
  have h5 : ((((Nat.lcm 1 a.natAbs).lcm b.natAbs : Nat) : Int)).natAbs.log2 < bitsLine := by
    rw [h3, Int.natAbs_natCast]
    exact Nat.lt_trans h4 (by decide)
  refine call_function_meets PySem.W.MGF.kind_lcm PySem.W.MGF.plain_lcm PySem.W.MGF.entry_lcm (PySem.W.MGF.args_lcm _ _) (PySem.W.mg_run_lcm a t b u (by omega) (by omega) h5).meets ?_
  rw [h3]
  exact ⟨.int _, H, I.tok _, ⟨_, rfl⟩, q⟩
end
section
variable {X : Cx} {CX : CXT} {k : Nat} {f C : Addr} {fd : FuncData} {ps ks : List Str} {sp : Sp} {E : XK} {x m : Str} {p pos apos kpos : Pos} {e o : Expr} {es : List Expr} {kws : List Keyword} {te ta : TE} {t tk : TA} {nm : Option Str}
variable {g : List Value → List Value → List Value} {gV : List V → List V → List V}
def tCallK0 (sp : Sp) (gV : List V → List V → List V) (E : XK) (tk : TA) : TE := fun σ H Q => tk σ H fun zs H2 => sp (gV [] zs) H2 Q E
/-- f(k = v, ..), nothing by position -/
theorem pe_callK0 (F : FnOk X.prog X.w X.K X.mg X.base CX k f fd ps sp) (hr : Room k X.A) (hg : Gl X x) (hm : X.mg x = some (.ref f)) (hk : PySem.W.keepIn X.K (.ref f) = true) (hb : KBinds X.K fd ps ks g gV) (hx : Passes CX X E)
    (hkw : PK X kws tk) (hall : (backToKw pos (keywordEach kws X.env)).all (·.1.isSome) = true := by rfl) (hks : (backToKw pos (keywordEach kws X.env)).filterMap (·.1) = ks := by rfl)
    (hdb : (x == ("__debug__" : Str)) = false := by decide) (hpl : ((backTo pos (starEach [] X.env)).any (·.1) || (backToKw pos (keywordEach kws X.env)).any (·.1.isNone)) = false := by rfl) :
    PE X (.Call (.Name x p) [] kws pos) (tCallK0 sp gV E tk) := by
  refine ⟨fun pins s σ H Q I h => ?_⟩
  refine wpAny_Call_Name_kw (ld_glob I hg hm ?_ hdb)
  refine PySem.W.callWith_KW0 (h₀ := X.base) I.ok.mod.kin hk hall (thn (hkw.run pos pins s σ H _ I h) fun ws s2 ⟨zs, H2, I2, rz, q2⟩ => ⟨I2.kIn, ?_⟩) hpl
  rw [hks]
  exact run_fnk (us := []) (vs := []) F hr hb hx I2 .nil rz q2
end
/-- a def that may raise, where it doesn't -/
theorem quiet {P : Program} {w : World} {K : PySem.W.Frag} {mg : Str → Option Value} {base : Heap} {k : Nat} {f : Addr} {fd : FuncData} {ps : List Str} {sp : Sp} (F : FnOk P w K mg base (L2.CX P w) k f fd ps sp) :
    FnOk P w K mg base CX0 k f fd ps (fun vs H Q _ => sp vs H Q (fun _ _ _ => False)) :=
  ⟨fun vs H Q E h => F.len vs H Q _ h, fun A outer s H args us vs Q E hr he hb hv hs => by
    refine codeAny_mono (F.run A outer s H args us vs Q (fun _ _ _ => False) hr he hb hv hs) ?_
    intro r s' h
    match r, h with
    | .ok (.ret u), h => exact h
    | .error er, h =>
      obtain ⟨a, B, H', cls, d, _, _, _, _, _, _, _, z⟩ := h
      exact z.elim⟩
section
variable {X : Cx} {e : Expr} {te : TE} {pos : Pos} {a : Addr} {oe : Obj} {cls : Value} {d : Option Addr} {pn : List (Addr × Obj)} {f : Str}
theorem xd_at {P : Program} {w : World} {H : Hp} {h : Heap} {dd : Addr} {fs : List (Str × V)} (hok : HOk P w H h) (ea : H dd = some (.xd fs)) : ∃ mA, h.Ns1 dd mA ∧ ∀ g, RelO (fs.lookup g) (mA g) := by
  have hx : ObjOk P w H h dd (.xd fs) := hok dd _ ea
  obtain ⟨mA, hns, hr⟩ := hx
  exact ⟨mA, hns, hr⟩
/-- e.f, e the error that the suite holds -/
def tErrF (K : PySem.W.Frag) (a : Addr) (cls : Value) (d : Option Addr) (f : Str) (te : TE) : TE := fun σ H Q => te σ H fun x H1 => x = .ref a ∧ ∃ (C dd : Addr) (v : V), cls = .ref C ∧ d = some dd ∧ ErrC K C ∧ PySem.W.findIn K (.ref C) f = some none ∧ H1 dd = some (.xd [(f, v)]) ∧ Q v H1
theorem pe_errF (hz : Zc cls d oe) (hf : ∃ vs, oe.data = .fields vs) (he : PE (X.suite a ((a, oe) :: pn)) e te) (hb : attributeBase e f X.env (eval e X.env) = eval e X.env := by rfl) :
    PE (X.suite a ((a, oe) :: pn)) (.Attribute e f pos) (tErrF X.K a cls d f te) := by
  refine ⟨fun pins s σ H Q I h => ?_⟩
  refine attr_of hb (thn (he.run pins s σ H _ I h) fun u s1 hh => ?_)
  obtain ⟨x, H1, I1, rx, ex, C, dd, v, ec, ed, T, no, ea, q⟩ := hh
  subst ex
  obtain rfl : u = Value.ref a := rx
  subst ec
  subst ed
  obtain ⟨ha, _⟩ := I1.pin (a, oe) (List.mem_append_left _ List.mem_cons_self)
  obtain ⟨vs, hd⟩ := hf
  obtain ⟨mA, hns, hr⟩ := xd_at I1.hok ea
  obtain ⟨od, ho, hl⟩ := lookIn_ns hns
  have l : List.lookup f [(f, v)] = some v := by simp [List.lookup]
  obtain ⟨u, hu, ru⟩ := RelO.some_of (v := v) (o := mA f) (by rw [← l]; exact hr f)
  have J : PySem.W.InstAt s1.heap a oe C (some od) := ⟨ha, hz.1, by unfold PySem.W.notCls; rw [hd] <;> rfl, by rw [hz.2]; exact ho⟩
  exact HandSPX.exc_get I1.kIn J T.ga T.gg T.exc (PySem.W.findObj_own T.hd no rfl (by rw [hl, hu])) (handed_of ru) ⟨v, H1, I1.tok _, ru, q⟩
/-- isinstance(e, ..), e the error that the suite holds -/
def rIsX (K : PySem.W.Frag) (a : Addr) (cls : Value) (d : Option Addr) : List V → Hp → VK → Prop := fun xs H Q =>
  ∃ (C : Addr) (c : V) (cu : Value) (b : Bool), xs = [.ref a, c] ∧ cls = .ref C ∧ (∀ dd, d = some dd → ∃ fs, H dd = some (.xd fs)) ∧ ErrC K C ∧ ClsV c cu ∧ PySem.W.kitOne K (.ref C) cu = some b ∧ Q (.bl b) H
theorem call_isX (hz : Zc cls d oe) (hf : ∃ vs, oe.data = .fields vs) : CallR (X.suite a ((a, oe) :: pn)) (.builtin "isinstance") (rIsX X.K a cls d) := by
  intro pins s σ H xs us Q I r h
  obtain ⟨C, c, cu, b, rfl, ec, hod, T, kc, ek, q⟩ := h
  obtain ⟨u1, u2, rfl, r1, r2⟩ := vals2 r
  obtain rfl : u1 = Value.ref a := r1
  have e2 := kc.eq r2
  subst e2
  subst ec
  obtain ⟨ha, _⟩ := I.pin (a, oe) (List.mem_append_left _ List.mem_cons_self)
  obtain ⟨vs, hd⟩ := hf
  have cls : (PySem.W.clsIn X.K C).isSome = true := by
    obtain ⟨cd, hcd, _⟩ := PySem.W.any_some T.hd
    rw [hcd]
    rfl
  have fin : ∀ tk, EP (X.suite a ((a, oe) :: pn)) pins σ Q (.bool b) { s with toks := tk } := fun tk => ⟨.bl b, H, I.tok tk, rfl, q⟩
  have no : PySem.W.notCls oe = true := by unfold PySem.W.notCls; rw [hd] <;> rfl
  cases d with
  | none =>
    exact PySem.W.kia_one (PySem.W.kitx_exc (od := none) cls T.ga T.gg T.exc T.hc T.hn T.ht T.hm) I.kIn (⟨ha, hz.1, no, by rw [hz.2]; exact trivial⟩ : PySem.W.InstAt s.heap a oe C none) ek (fun z => nomatch z) fin
  | some dx =>
    obtain ⟨fs, ed⟩ := hod dx rfl
    obtain ⟨mA, hns, _⟩ := xd_at I.hok ed
    obtain ⟨od, ho, _⟩ := lookIn_ns hns
    exact PySem.W.kia_one (PySem.W.kitx_exc (od := some od) cls T.ga T.gg T.exc T.hc T.hn T.ht T.hm) I.kIn (⟨ha, hz.1, no, by rw [hz.2]; exact ho⟩ : PySem.W.InstAt s.heap a oe C (some od)) ek (fun z => nomatch z) fin
end
end Wb

namespace Wf
def sumR : List Rat → Rat
  | [] => 0
  | q :: r => q + sumR r
def prodR : List Rat → Rat
  | [] => 1
  | q :: r => q * prodR r
theorem sumR_snoc (q : Rat) : ∀ l : List Rat, sumR (l ++ [q]) = sumR l + q
  | [] => by show q + 0 = 0 + q; rw [Rat.add_comm]
  | x :: l => by
    show x + sumR (l ++ [q]) = x + sumR l + q
    rw [sumR_snoc q l, Rat.add_assoc]
theorem prodR_snoc (q : Rat) : ∀ l : List Rat, prodR (l ++ [q]) = prodR l * q
  | [] => by show q * 1 = 1 * q; rw [Rat.mul_comm]
  | x :: l => by
    show x * prodR (l ++ [q]) = x * prodR l * q
    rw [prodR_snoc q l, Rat.mul_assoc]
theorem den_ne0 (q : Rat) : (q.den : Int) ≠ 0 := by
  have := q.den_pos
  omega
/-- the parts of a common bottom -/
def sumTop (L : Int) : List Rat → Int
  | [] => 0
  | q :: r => q.num * (L / q.den) + sumTop L r
theorem one_part {L : Int} (h : L ≠ 0) {q : Rat} (d : (q.den : Int) ∣ L) : Rat.divInt (q.num * (L / q.den)) L = q := by
  obtain ⟨m, rfl⟩ := d
  have m0 : m ≠ 0 := fun e => h (by rw [e, Int.mul_zero])
  rw [Int.mul_ediv_cancel_left _ (den_ne0 q), Rat.divInt_mul_right m0, Rat.num_divInt_den]
theorem add_parts {L a b : Int} (h : L ≠ 0) : Rat.divInt (a + b) L = Rat.divInt a L + Rat.divInt b L := by
  rw [Rat.divInt_add_divInt _ _ h h, ← Int.add_mul, Rat.divInt_mul_right h]
theorem sum_parts {L : Int} (h : L ≠ 0) : ∀ l : List Rat, (∀ q ∈ l, (q.den : Int) ∣ L) → Rat.divInt (sumTop L l) L = sumR l
  | [], _ => by show Rat.divInt 0 L = 0; exact Rat.zero_divInt _
  | q :: r, d => by
    show Rat.divInt (q.num * (L / q.den) + sumTop L r) L = q + sumR r
    rw [add_parts h, one_part h (d q List.mem_cons_self), sum_parts h r fun x hx => d x (List.mem_cons_of_mem _ hx)]
theorem sumTop_eq (L : Int) : ∀ l : List Rat, sumTop L l = (l.map fun q => q.num * (L / q.den)).sum
  | [] => rfl
  | q :: r => by
    show q.num * (L / q.den) + sumTop L r = _
    rw [sumTop_eq L r]
    simp
/-- a sum, a product kept as a top and a bottom -/
theorem step_sum {t b : Int} (hb : b ≠ 0) (q : Rat) : Rat.divInt (t * q.den + q.num * b) (b * q.den) = Rat.divInt t b + q := by
  have e : q = Rat.divInt q.num q.den := (Rat.num_divInt_den q).symm
  conv => rhs; rw [e]
  rw [Rat.divInt_add_divInt _ _ hb (den_ne0 q)]
theorem step_prod (t b : Int) (q : Rat) : Rat.divInt (t * q.num) (b * q.den) = Rat.divInt t b * q := by
  have e : q = Rat.divInt q.num q.den := (Rat.num_divInt_den q).symm
  conv => rhs; rw [e]
  rw [Rat.divInt_mul_divInt]
theorem one_le_two_pow (k : Nat) : 1 ≤ 2 ^ k := Nat.one_le_two_pow
theorem lcm_step {L : Nat} {q : Rat} {j k : Nat} (l0 : 0 < L) (hl : L < 2 ^ j) (hq : q.den < 2 ^ k) : 0 < Nat.lcm L q.den ∧ Nat.lcm L q.den < 2 ^ (j + k) ∧ q.den ∣ Nat.lcm L q.den ∧ L ∣ Nat.lcm L q.den := by
  refine ⟨Nat.lcm_pos l0 q.den_pos, ?_, Nat.dvd_lcm_right _ _, Nat.dvd_lcm_left _ _⟩
  have : Nat.lcm L q.den ≤ L * q.den := Nat.div_le_self _ _
  rw [Nat.pow_add]
  exact Nat.lt_of_le_of_lt this (Nat.mul_lt_mul'' hl hq)
/-- Euclid's steps -/
structure Euc (A B : Nat) (k i a b : Nat) : Prop where
  g : Nat.gcd a b = Nat.gcd A B
  first : i = 0 → a = A ∧ b = B
  later : 0 < i → b < a ∧ a * b * 2 ^ (i - 1) < 2 ^ (2 * k)
theorem euc_step {A B k i a b : Nat} (e : Euc A B k i a b) (hb : B < 2 ^ k) (b0 : b ≠ 0) : Euc A B k (i + 1) b (a % b) := by
  have bp : 0 < b := Nat.pos_of_ne_zero b0
  refine ⟨?_, fun z => by omega, fun _ => ⟨Nat.mod_lt _ bp, ?_⟩⟩
  · rw [← e.g, Nat.gcd_comm b, ← Nat.gcd_rec, Nat.gcd_comm]
  · by_cases hi : i = 0
    · obtain ⟨rfl, rfl⟩ := e.first hi
      subst hi
      show b * (a % b) * 2 ^ 0 < _
      have h1 : a % b < 2 ^ k := Nat.lt_trans (Nat.mod_lt _ bp) hb
      rw [Nat.pow_zero, Nat.mul_one, Nat.two_mul, Nat.pow_add]
      exact Nat.mul_lt_mul'' hb h1
    · obtain ⟨h1, h2⟩ := e.later (by omega)
      obtain ⟨j, rfl⟩ : ∃ j, i = j + 1 := ⟨i - 1, by omega⟩
      show b * (a % b) * 2 ^ (j + 1) < _
      have h3 : 2 * (a % b) ≤ a := by
        have := Nat.mod_add_div a b
        have q1 : 1 ≤ a / b := (Nat.le_div_iff_mul_le bp).mpr (by omega)
        have q2 : b * 1 ≤ b * (a / b) := Nat.mul_le_mul_left b q1
        have q3 := Nat.mod_lt a bp
        omega
      have h4 : b * (a % b) * 2 ^ (j + 1) ≤ a * b * 2 ^ j := by
        rw [Nat.pow_succ, Nat.mul_comm (2 ^ j) 2, ← Nat.mul_assoc, Nat.mul_comm a b]
        apply Nat.mul_le_mul_right
        rw [Nat.mul_assoc, Nat.mul_comm (a % b) 2]
        exact Nat.mul_le_mul_left b h3
      exact Nat.lt_of_le_of_lt h4 h2
theorem euc_end {A B k i a b : Nat} (e : Euc A B k i a b) (hi : 2 * k + 1 ≤ i) : b = 0 := by
  obtain ⟨h1, h2⟩ := e.later (by omega)
  by_cases z : b = 0
  · exact z
  · exfalso
    have p : 1 ≤ a * b := Nat.mul_pos (by omega) (by omega)
    have q : 2 ^ (2 * k) ≤ 2 ^ (i - 1) := Nat.pow_le_pow_right (by decide) (by omega)
    have r : 1 * 2 ^ (i - 1) ≤ a * b * 2 ^ (i - 1) := Nat.mul_le_mul_right _ p
    omega
theorem euc_done {A B k i a : Nat} (e : Euc A B k i a 0) : a = Nat.gcd A B := by
  rw [← e.g, Nat.gcd_zero_right]
end Wf

set_option Elab.async false
set_option linter.all false
set_option maxRecDepth 100000
set_option maxHeartbeats 4000000
/-! Wc0: a def by its name: what may be called (Cal, CalG), the rules of its calls, how one comes to be. -/
namespace Wb
open PySem PySem.Spec PyProof.Rows L2
/-- the def's record -/
def FdOf (x : Str) (st : Stmt) (fd : FuncData) : Prop := ∃ (kV dc pm : Value) (an : Option Addr) (cd ct : Value), fd = PySem.W.fnOf x x (defArgs st) (defBody st) (defScope st) .none kV dc pm an cd ct
section
variable (P : Program) (w : World) (K : PySem.W.Frag) (mg : Str → Option Value) (base : Heap)
/-- the def of this name, promised -/
def Cal (CX : CXT) (k : Nat) (x : Str) (st : Stmt) (ps : List Str) (sp : Sp) : Prop := ∃ (f : Addr) (fd : FuncData), FnOk P w K mg base CX k f fd ps sp ∧ mg x = some (.ref f) ∧ PySem.W.keepIn K (.ref f) = true ∧ Binds K fd ps [] ∧ FdOf x st fd
/-- .. where no repr runs -/
def CalG (CX : CXT) (k : Nat) (x : Str) (st : Stmt) (ps : List Str) (sp : Sp) : Prop := ∃ (f : Addr) (fd : FuncData), FnG P w K mg base CX k f fd ps sp ∧ mg x = some (.ref f) ∧ PySem.W.keepIn K (.ref f) = true ∧ Binds K fd ps [] ∧ FdOf x st fd
/-- the def of this name as it stands in the text -/
def Def (K : PySem.W.Frag) (mg : Str → Option Value) (x : Str) (st : Stmt) (ps : List Str) : Prop := ∃ (f : Addr) (fd : FuncData), Fun K x x st f fd ∧ mg x = some (.ref f) ∧ Binds K fd ps [] ∧ FdOf x st fd
end
section
variable {P : Program} {w : World} {K : PySem.W.Frag} {mg : Str → Option Value} {base : Heap} {CX : CXT} {k : Nat} {x : Str} {N ps : List Str} {sp : Sp} {st : Stmt}
theorem Cal.G (C : Cal P w K mg base CX k x st ps sp) : CalG P w K mg base CX k x st ps sp := by
  obtain ⟨f, fd, F, m, kp, b, o⟩ := C
  exact ⟨f, fd, .of F, m, kp, b, o⟩
theorem Cal.quiet (C : Cal P w K mg base (L2.CX P w) k x st ps sp) : Cal P w K mg base CX0 k x st ps (fun vs H Q _ => sp vs H Q (fun _ _ _ => False)) := by
  obtain ⟨f, fd, F, m, kp, b, o⟩ := C
  exact ⟨f, fd, Wb.quiet F, m, kp, b, o⟩
theorem Cal.weaken {sp' : Sp} (C : Cal P w K mg base CX k x st ps sp) (h : ∀ vs H Q E, sp' vs H Q E → sp vs H Q E) : Cal P w K mg base CX k x st ps sp' := by
  obtain ⟨f, fd, F, m, kp, b, o⟩ := C
  exact ⟨f, fd, ⟨fun vs H Q E z => F.len vs H Q E (h _ _ _ _ z), fun A outer s H args us vs Q E hr he hb hv hs => F.run A outer s H args us vs Q E hr he hb hv (h _ _ _ _ hs)⟩, m, kp, b, o⟩
theorem Def.ok (D : Def K mg x st ps) (S : FnScope N ps (defScope st)) (len : ∀ vs H Q E, sp vs H Q E → vs.length = ps.length)
    (hbody : ∀ (cdv : Value) (f : Addr) (A : Around) (outer : List Env) (s : Shared) (H : Hp) (vs : List V) (Q : VK) (E : XK), Room k (A.deeper (envOfC x (defScope st) s.heap.objs.size f cdv)) → sp vs H Q E →
      ∃ t, PSs (cxOf CX0 P w K mg base N x (defScope st) f cdv A outer s H E).nox (defBody st) t ∧ t { nx := fun _ H' => Q .non H', rt := Q } (start N vs) H) : Cal P w K mg base CX0 (k + 1) x st ps sp := by
  obtain ⟨f, fd, F, m, b, o⟩ := D
  exact ⟨f, fd, F.ok S len fun cdv => hbody cdv f, m, F.kp, b, o⟩
theorem Def.okX (D : Def K mg x st ps) (S : FnScope N ps (defScope st)) (len : ∀ vs H Q E, sp vs H Q E → vs.length = ps.length)
    (hbody : ∀ (cdv : Value) (f : Addr) (A : Around) (outer : List Env) (s : Shared) (H : Hp) (vs : List V) (Q : VK) (E : XK), Room k (A.deeper (envOfC x (defScope st) s.heap.objs.size f cdv)) → sp vs H Q E →
      ∃ t, PSs (cxOf (L2.CX P w) P w K mg base N x (defScope st) f cdv A outer s H E) (defBody st) t ∧ t { nx := fun _ H' => Q .non H', rt := Q } (start N vs) H) : Cal P w K mg base (L2.CX P w) (k + 1) x st ps sp := by
  obtain ⟨f, fd, F, m, b, o⟩ := D
  exact ⟨f, fd, F.okX S len fun cdv => hbody cdv f, m, F.kp, b, o⟩
theorem Def.okG (D : Def K mg x st ps) (S : FnScope N ps (defScope st)) (len : ∀ vs H Q E, sp vs H Q E → vs.length = ps.length)
    (hbody : ∀ (cdv : Value) (f : Addr) (A : Around) (outer : List Env) (s : Shared) (H : Hp) (vs : List V) (Q : VK) (E : XK),
      (A.deeper (envOfC x (defScope st) s.heap.objs.size f cdv)).guards = some [] → Room k (A.deeper (envOfC x (defScope st) s.heap.objs.size f cdv)) → sp vs H Q E →
      ∃ t, PSs (cxOf CX P w K mg base N x (defScope st) f cdv A outer s H E) (defBody st) t ∧ t { nx := fun _ H' => Q .non H', rt := Q } (start N vs) H) : CalG P w K mg base CX (k + 1) x st ps sp := by
  obtain ⟨f, fd, F, m, b, o⟩ := D
  exact ⟨f, fd, Wb.okG F S len fun cdv => hbody cdv f, m, F.kp, b, o⟩
end
section
variable {X : Cx} {CX : CXT} {k : Nat} {ps ks : List Str} {sp : Sp} {E : XK} {x : Str} {st : Stmt} {p pos : Pos} {e : Expr} {es : List Expr} {t : TA}
theorem pe_cal (C : Cal X.prog X.w X.K X.mg X.base CX k x st ps sp) (hr : Room k X.A) (hg : Gl X x) (hx : Passes CX X E)
    (ha : PA X (e :: es) t) (hdb : (x == ("__debug__" : Str)) = false := by decide) (he : starEach (e :: es) X.env = (false, eval e X.env) :: starEach es X.env := by rfl) (hpl : (backTo pos (starEach es X.env)).any (·.1) = false := by rfl) :
    PE X (.Call (.Name x p) (e :: es) [] pos) (tCall sp [] E t) := by
  obtain ⟨f, fd, F, m, kp, b, o⟩ := C
  exact pe_call F hr hg m kp b .nil hx ha hdb he hpl
theorem pe_cal0 (C : Cal X.prog X.w X.K X.mg X.base CX k x st ps sp) (hr : Room k X.A) (hg : Gl X x) (hx : Passes CX X E) (hdb : (x == ("__debug__" : Str)) = false := by decide) : PE X (.Call (.Name x p) [] [] pos) (tCall sp [] E tNil) := by
  obtain ⟨f, fd, F, m, kp, b, o⟩ := C
  exact pe_call0 F hr hg m kp b .nil hx hdb
theorem pe_calG (C : CalG X.prog X.w X.K X.mg X.base CX k x st ps sp) (gd : X.A.guards = some []) (hr : Room k X.A) (hg : Gl X x) (hx : Passes CX X E)
    (ha : PA X (e :: es) t) (hdb : (x == ("__debug__" : Str)) = false := by decide) (he : starEach (e :: es) X.env = (false, eval e X.env) :: starEach es X.env := by rfl) (hpl : (backTo pos (starEach es X.env)).any (·.1) = false := by rfl) :
    PE X (.Call (.Name x p) (e :: es) [] pos) (tCall sp [] E t) := by
  obtain ⟨f, fd, F, m, kp, b, o⟩ := C
  exact pe_callG F gd hr hg m kp b .nil hx ha hdb he hpl
/-- a def that may raise, called where it is caught, or let out -/
theorem pe_calS {E : L2.St → XK} (C : Cal X.prog X.w X.K X.mg X.base CX k x st ps sp) (hr : Room k X.A) (hg : Gl X x) (hx : ∀ σ, PassesAt CX X σ (E σ))
    (ha : PA X (e :: es) t) (hdb : (x == ("__debug__" : Str)) = false := by decide) (he : starEach (e :: es) X.env = (false, eval e X.env) :: starEach es X.env := by rfl) (hpl : (backTo pos (starEach es X.env)).any (·.1) = false := by rfl) :
    PE X (.Call (.Name x p) (e :: es) [] pos) (tCallS sp E t) := by
  obtain ⟨f, fd, F, m, kp, b, o⟩ := C
  exact pe_callS F hr hg m kp b hx ha hdb he hpl
end
/-- f(k = v, ..): ix tells, for each parameter, the place of its keyword among those written -/
def kwV (ix : List Nat) (zs : List V) : List V := ix.map fun i => zs.getD i .non
def kwU (ix : List Nat) (zs : List Value) : List Value := ix.map fun i => zs.getD i .none
theorem kw_rel {vs : List V} {us : List Value} (r : Vals vs us) : ∀ ix : List Nat, Vals (kwV ix vs) (kwU ix us)
  | [] => .nil
  | i :: ix => by
    refine .cons ?_ (kw_rel r ix)
    have go : ∀ {vs : List V} {us : List Value}, Vals vs us → ∀ i : Nat, RelV (vs.getD i .non) (us.getD i .none) := by
      intro vs us r
      induction r with
      | nil => intro i; exact rfl
      | cons h _ ih =>
        intro i
        cases i with
        | zero => exact h
        | succ i => exact ih i
    exact go r i
/-- how the keywords of such a call bind -/
def Kw (x : Str) (st : Stmt) (ps ks : List Str) (ix : List Nat) : Prop := ix.length = ps.length ∧ ∀ (kV dc pm : Value) (an : Option Addr) (cd ct : Value) (s : Shared) (ws : List Value), ws.length = ks.length →
  BindsTo s (PySem.W.fnOf x x (defArgs st) (defBody st) (defScope st) .none kV dc pm an cd ct) ⟨[], ks.zip ws⟩ (ps.zip (kwU ix ws))
section
variable {X : Cx} {CX : CXT} {k : Nat} {ps ks : List Str} {sp : Sp} {E : XK} {x : Str} {p pos : Pos} {st : Stmt} {kws : List Keyword} {tk : TA} {ix : List Nat}
def tCalK (sp : Sp) (ix : List Nat) (n : Nat) (E : XK) (tk : TA) : TE := fun σ H Q => tk σ H fun zs H2 => zs.length = n ∧ sp (kwV ix zs) H2 Q E
theorem pe_calK (C : Cal X.prog X.w X.K X.mg X.base CX k x st ps sp) (hr : Room k X.A) (hg : Gl X x) (hx : Passes CX X E) (hb : Kw x st ps ks ix)
    (hkw : PK X kws tk) (hall : (backToKw pos (keywordEach kws X.env)).all (·.1.isSome) = true := by rfl) (hks : (backToKw pos (keywordEach kws X.env)).filterMap (·.1) = ks := by rfl)
    (hdb : (x == ("__debug__" : Str)) = false := by decide) (hpl : ((backTo pos (starEach [] X.env)).any (·.1) || (backToKw pos (keywordEach kws X.env)).any (·.1.isNone)) = false := by rfl) :
    PE X (.Call (.Name x p) [] kws pos) (tCalK sp ix ks.length E tk) := by
  obtain ⟨f, fd, F, m, kp, b, ⟨kV, dc, pm, an, cd, ct, rfl⟩⟩ := C
  refine ⟨fun pins s σ H Q I h => ?_⟩
  refine wpAny_Call_Name_kw (ld_glob I hg m ?_ hdb)
  refine PySem.W.callWith_KW0 (h₀ := X.base) I.ok.mod.kin kp hall (thn (hkw.run pos pins s σ H _ I h) fun ws s2 ⟨zs, H2, I2, rz, hl, q2⟩ => ⟨I2.kIn, ?_⟩) hpl
  rw [hks]
  have hl2 : ws.length = ks.length := by rw [← rz.length]; exact hl
  have r2 := kw_rel rz ix
  refine wpAny_call (codeAny_mono (F.run X.A X.stack s2 H2 ⟨[], ks.zip ws⟩ (kwU ix ws) (kwV ix zs) _ E hr I2.env0 (hb.2 _ _ _ _ _ _ s2 ws hl2) r2 q2) fun r s' hq => ?_)
  cases r with
  | error e => exact hx pins σ H2 s2 e s' I2 hq
  | ok fl =>
    cases fl with
    | ret u => exact I2.after hq
    | next => exact False.elim hq
    | brk => exact False.elim hq
    | cont => exact False.elim hq
theorem pe_calKG (C : CalG X.prog X.w X.K X.mg X.base CX k x st ps sp) (gd : X.A.guards = some []) (hr : Room k X.A) (hg : Gl X x) (hx : Passes CX X E) (hb : Kw x st ps ks ix)
    (hkw : PK X kws tk) (hall : (backToKw pos (keywordEach kws X.env)).all (·.1.isSome) = true := by rfl) (hks : (backToKw pos (keywordEach kws X.env)).filterMap (·.1) = ks := by rfl)
    (hdb : (x == ("__debug__" : Str)) = false := by decide) (hpl : ((backTo pos (starEach [] X.env)).any (·.1) || (backToKw pos (keywordEach kws X.env)).any (·.1.isNone)) = false := by rfl) :
    PE X (.Call (.Name x p) [] kws pos) (tCalK sp ix ks.length E tk) := by
  obtain ⟨f, fd, F, m, kp, b, ⟨kV, dc, pm, an, cd, ct, rfl⟩⟩ := C
  refine ⟨fun pins s σ H Q I h => ?_⟩
  refine wpAny_Call_Name_kw (ld_glob I hg m ?_ hdb)
  refine PySem.W.callWith_KW0 (h₀ := X.base) I.ok.mod.kin kp hall (thn (hkw.run pos pins s σ H _ I h) fun ws s2 ⟨zs, H2, I2, rz, hl, q2⟩ => ⟨I2.kIn, ?_⟩) hpl
  rw [hks]
  have hl2 : ws.length = ks.length := by rw [← rz.length]; exact hl
  have r2 := kw_rel rz ix
  refine wpAny_call (codeAny_mono (F.go X.A X.stack s2 H2 ⟨[], ks.zip ws⟩ (kwU ix ws) (kwV ix zs) _ E gd hr I2.env0 (hb.2 _ _ _ _ _ _ s2 ws hl2) r2 q2) fun r s' hq => ?_)
  cases r with
  | error e => exact hx pins σ H2 s2 e s' I2 hq
  | ok fl =>
    cases fl with
    | ret u => exact I2.after hq
    | next => exact False.elim hq
    | brk => exact False.elim hq
    | cont => exact False.elim hq
end
/-! ### what the head finds -/
/-- a def as the top has left it -/
def FnF (K : PySem.W.Frag) (nm q : Str) (st : Stmt) (f : Addr) : Prop := ∃ (oc : Value) (od : Option Addr) (kV dc pm : Value) (an : Option Addr) (cd ct : Value) (sl : Array (Option Value)),
  K.lookup f = some ⟨oc, od, .func (PySem.W.fnOf nm q (defArgs st) (defBody st) (defScope st) .none kV dc pm an cd ct), sl⟩ ∧ PySem.W.codeIn K cd q = true ∧ PySem.W.keepIn K (.ref f) = true
theorem FnF.mk2 {K : PySem.W.Frag} {nm q : Str} {st : Stmt} {f : Addr} {oc : Value} {od : Option Addr} {kV dc pm : Value} {an : Option Addr} {cd ct : Value} {sl : Array (Option Value)}
    (l : K.lookup f = some ⟨oc, od, .func (PySem.W.fnOf nm q (defArgs st) (defBody st) (defScope st) .none kV dc pm an cd ct), sl⟩) (c : PySem.W.codeIn K cd q = true) (k : PySem.W.keepIn K (.ref f) = true) : FnF K nm q st f := ⟨oc, od, kV, dc, pm, an, cd, ct, sl, l, c, k⟩
theorem FnF.def_ {K : PySem.W.Frag} {mg : Str → Option Value} {h : Heap} (X : K.In h) (G : h.Ns mainGlobals mg) {x : Str} {st : Stmt} {ps : List Str} {f : Addr} (z : PySem.W.nsIn K mainGlobals x = some (some (.ref f))) (y : FnF K x x st f)
    (b : ∀ (kV doc pm : Value) (an : Option Addr) (cdv ct : Value) (us : List Value), us.length = ps.length → bindArgs (PySem.W.fnOf x x (defArgs st) (defBody st) (defScope st) .none kV doc pm an cdv ct) ⟨us, []⟩ = pure (ps.zip us)) : Def K mg x st ps := by
  obtain ⟨oc, od, kV, dc, pm, an, cd, ct, sl, l, c, kp⟩ := y
  exact ⟨f, _, fun_mk l c kp, PySem.W.mg_of X G z, .all (b kV dc pm an cd ct), kV, dc, pm, an, cd, ct, rfl⟩
end Wb

set_option Elab.async false
set_option linter.all false
set_option maxRecDepth 100000
set_option maxHeartbeats 4000000
/-! Wc1: own exceptions by their names: what the head finds of them, how they are raised, caught, asked. -/
namespace Wb
open PySem PySem.Spec PyProof.Rows L2
section
variable {K : PySem.W.Frag}
/-- an own exception's class as the top has left it: what stands above it in its chain, and how it is made -/
def ClsRow (K : PySem.W.Frag) (C : Addr) (top : List Value) (newId : String) : Prop :=
  ∃ (nm q : Str) (N : Addr) (bs : List Value) (sn : List Str) (sub : List Value) (ab : Bool) (col : Option Bool) (dd : Option Addr) (k0 k1 k2 k3 k5 : Option Value),
    K.lookup C = some (excClassObj nm q C N bs top true sn sub ab col dd k0 k1 k2 k3 k5 newId)
structure EF (K : PySem.W.Frag) (C : Addr) (top : List Value) (newId : String) : Prop where
  row : ClsRow K C top newId
  sa : PySem.W.findIn K (.ref C) "__setattr__" = some (some (.builtin "object.__setattr__"))
  ga : PySem.W.findIn K (.ref C) "__getattribute__" = some (some (.builtin "BaseException.__getattribute__"))
  gg : PySem.W.findIn K (.ref C) "__getattr__" = some none
  exc : PySem.W.subIn K (.ref C) (.type "BaseException") = some true
  ty : PySem.W.typeIn K (.ref C) = some (.type "type")
  hd : PySem.W.hasDictIn K C = true
  kp : PySem.W.keepIn K (.ref C) = true
  hc : PySem.W.findIn K (.ref C) "__class__" = some (some (.builtin "object.__class__"))
  hm : PySem.W.mroIn K C (.type "object") = some true
theorem EF.err {C : Addr} {top : List Value} {newId B initId S : String} {bmB bmS : List Value} (e : EF K C top newId) (FB : PySem.ExcBaseFacts B newId initId bmB) (SF : PySem.StoreFacts S bmS "object.__setattr__" "object") (ch : PySem.WbE.Chain top B)
    (tl : PySem.W.excTail bmS top = true) (hn : PySem.W.specialIn K (.builtin "object.__class__") "__get__" = some (some (.builtin "getset_descriptor.__get__"))) (ht : PySem.W.takesIn K (.builtin "object.__class__") = some true) : ErrC K C := by
  obtain ⟨nm, q, N, bs, sn, sub, ab, col, dd, k0, k1, k2, k3, k5, xL⟩ := e.row
  refine ⟨⟨B, newId, initId, bmB, nm, q, N, bs, top, sn, sub, ab, col, dd, k0, k1, k2, k3, k5, FB, ch, xL⟩, ⟨S, bmS, SF, ?_⟩, e.sa, e.ga, e.gg, e.exc, e.ty, e.hd, e.kp, e.hc, hn, ht, e.hm⟩
  unfold PySem.W.excOver PySem.W.clsIn
  rw [xL]
  show (C == C && PySem.W.excTail bmS top) = true
  rw [tl]
  simp
/-- what is below what -/
structure Row (K : PySem.W.Frag) (C : Addr) (top : List Value) : Prop where
  sub : ∀ v, PySem.W.subIn K (.ref C) v = some ((Value.ref C :: top).contains v)
  cls : (PySem.W.clsIn K C).isSome = true
  ty : PySem.W.typeIn K (.ref C) = some (.type "type")
theorem EF.chain {C : Addr} {top : List Value} {newId : String} (e : EF K C top newId) : Row K C top := by
  obtain ⟨nm, q, N, bs, sn, sub, ab, col, dd, k0, k1, k2, k3, k5, xL⟩ := e.row
  refine ⟨fun v => ?_, ?_, e.ty⟩
  · show PySem.W.mroIn K C v = _
    unfold PySem.W.mroIn PySem.W.clsIn
    rw [xL]
    rfl
  · unfold PySem.W.clsIn
    rw [xL]
    rfl
theorem Row.one_ty {C : Addr} {top : List Value} {X : String} (r : Row K C top) (km : PySem.W.kitMeta X = true) : PySem.W.kitOne K (.ref C) (.type X) = some (top.contains (.type X)) := by
  unfold PySem.W.kitOne
  rw [if_neg (by simp)]
  show (if PySem.W.kitMeta X = true then PySem.W.subIn K (.ref C) (.type X) else none) = _
  rw [if_pos km, r.sub]
  simp
theorem Row.one_ref {C D : Addr} {top up : List Value} (r : Row K C top) (r2 : Row K D up) : PySem.W.kitOne K (.ref C) (.ref D) = some (decide (C = D) || top.contains (.ref D)) := by
  unfold PySem.W.kitOne
  by_cases h : C = D
  · subst h
    rw [if_pos (by simp)]
    simp
  · rw [if_neg (by simpa using h)]
    show (if ((PySem.W.clsIn K D).isSome && PySem.W.typeIn K (.ref D) == some (.type "type")) = true then PySem.W.subIn K (.ref C) (.ref D) else none) = _
    rw [r2.cls, r2.ty, if_pos (by simp), r.sub]
    have h' : ¬ D = C := fun e => h e.symm
    simp [h, h']
theorem Row.exm_ref {C D : Addr} {top up : List Value} (r : Row K C top) (r2 : Row K D up) (b : up.contains (.type "BaseException") = true) : PySem.W.exmOne K (.ref C) (.ref D) = some (decide (C = D) || top.contains (.ref D)) := by
  unfold PySem.W.exmOne
  rw [r2.sub, if_pos (by rw [List.contains_cons, b]; simp)]
  show (if ((PySem.W.clsIn K D).isSome && PySem.W.typeIn K (.ref D) == some (.type "type")) = true then PySem.W.subIn K (.ref C) (.ref D) else none) = _
  rw [r2.cls, r2.ty, if_pos (by simp), r.sub]
  by_cases h : C = D
  · subst h
    simp
  · have h' : ¬ D = C := fun e => h e.symm
    simp [h, h']
theorem Row.exm_ty {C : Addr} {top : List Value} {X : String} (r : Row K C top) (km : PySem.W.kitMeta X = true) (b : PySem.W.subIn K (.type X) (.type "BaseException") = some true) : PySem.W.exmOne K (.ref C) (.type X) = some (top.contains (.type X)) := by
  unfold PySem.W.exmOne
  rw [b, if_pos (by simp)]
  show (if PySem.W.kitMeta X = true then PySem.W.subIn K (.ref C) (.type X) else none) = _
  rw [if_pos km, r.sub]
  simp
theorem ClsRow.mk2 {C : Addr} {top : List Value} {newId : String} {nm q : Str} {N : Addr} {bs : List Value} {sn : List Str} {sub : List Value} {ab : Bool} {col : Option Bool} {dd : Option Addr} {k0 k1 k2 k3 k5 : Option Value}
    (l : K.lookup C = some (excClassObj nm q C N bs top true sn sub ab col dd k0 k1 k2 k3 k5 newId)) : ClsRow K C top newId := ⟨nm, q, N, bs, sn, sub, ab, col, dd, k0, k1, k2, k3, k5, l⟩

end
def topE (CB : Addr) : List Value := [.ref CB, .type "Exception", .type "BaseException", .type "object"]
def topK : List Value := [.type "KeyError", .type "LookupError", .type "Exception", .type "BaseException", .type "object"]
def topB : List Value := [.type "Exception", .type "BaseException", .type "object"]
section
variable (P : Program) (w : World) (K : PySem.W.Frag) (mg : Str → Option Value) (base : Heap)
/-- an own exception with one field -/
structure Err (x fld : Str) (C : Addr) (top : List Value) : Prop where
  T : ErrC K C
  g : mg x = some (.ref C)
  row : Row K C top
  no : PySem.W.findIn K (.ref C) fld = some none
  ini : ∃ (fI : Addr) (fd : FuncData), PySem.W.findIn K (.ref C) "__init__" = some (some (.ref fI)) ∧ PySem.W.typeIn K (.ref fI) = some (.type "function") ∧ FnOk P w K mg base CX0 1 fI fd ["self", fld] (spIni C fld) ∧ Binds K fd ["self", fld] []
/-- an own exception without fields -/
structure ErrB (K : PySem.W.Frag) (mg : Str → Option Value) (x : Str) (C : Addr) (top : List Value) : Prop where
  T : ErrC K C
  g : mg x = some (.ref C)
  row : Row K C top
end
section
variable {P : Program} {w : World} {K : PySem.W.Frag} {mg : Str → Option Value} {base : Heap} {x fld y g : Str} {C D B : Addr} {top : List Value}
theorem Err.exm_self (Z : Err P w K mg base x fld C top) (h : top.contains (.type "BaseException") = true) : PySem.W.exmOne K (.ref C) (.ref C) = some true := by
  rw [Z.row.exm_ref Z.row h]
  simp
theorem Err.is_self (Z : Err P w K mg base x fld C top) : PySem.W.kitOne K (.ref C) (.ref C) = some true := by
  rw [Z.row.one_ref Z.row]
  simp
theorem Err.is_base (Z : Err P w K mg base x fld C (topE B)) (ZB : ErrB K mg y B topB) : PySem.W.kitOne K (.ref C) (.ref B) = some true := by
  rw [Z.row.one_ref ZB.row]
  simp [topE]
theorem Err.isnt {up : List Value} (Z : Err P w K mg base x fld C (topE B)) (Y : Err P w K mg base y g D up) (h1 : C ≠ D) (h2 : D ≠ B) : PySem.W.kitOne K (.ref C) (.ref D) = some false := by
  rw [Z.row.one_ref Y.row]
  simp [topE, h1, h2]
end
section
variable {X : Cx} {x fld : Str} {C : Addr} {top : List Value} {k : Nat} {p pos : Pos} {e : Expr} {es : List Expr} {ta : TA}
/-- raise C(e) -/
theorem pmk_E (Z : Err X.prog X.w X.K X.mg X.base x fld C top) (hr : Room k X.A) (hk : 2 ≤ k) (hg : Gl X x) (ha : PA X (e :: es) ta) (hdb : (x == ("__debug__" : Str)) = false := by decide)
    (he : starEach (e :: es) X.env = (false, eval e X.env) :: starEach es X.env := by rfl) (hpl : (backTo pos (starEach es X.env)).any (·.1) = false := by rfl) : PMk X (.Call (.Name x p) (e :: es) [] pos) (tErrX C fld ta) := by
  obtain ⟨fI, fd, iC, tI, F1, hb⟩ := Z.ini
  exact pmk_err Z.T iC tI F1 (hr.mono hk) hb pass0 hg Z.g ha hdb he hpl
end
end Wb

set_option Elab.async false
set_option linter.all false
set_option maxRecDepth 100000
set_option maxHeartbeats 4000000
/-! Wc2: the law's own call, for a def by its name; the head's ends. -/
namespace Wb
open PySem PySem.Spec PyProof.Rows L2

/-- the law's def, promised where no repr runs, called from outside -/
theorem lawG2 {P : Program} {w : World} {K : PySem.W.Frag} {mg mb : Str → Option Value} {CX : CXT} {k : Nat} {fa a : Addr} {x : Str} {sp : Sp} {st : Shared} {vs : List Value} {ns : List Int}
    (inK : K.In st.heap) (names : st.heap.Ns mainGlobals mg) (bns : st.heap.Ns builtinsNs mb) (boot : ∀ x : Str, x ≠ "__name__" → mb x = bootBuiltins x) (lim : st.heap.NoLimit) (nogen : st.gens = #[])
    (atA : st.heap.get? a = some { cls := .type "list", data := .seq vs.toArray }) (areInts : IntsAre vs ns) (short : ns.length ≤ sizeLine) (room : Room k callerA)
    (F : ∀ base : Heap, K.In base → base.Ns mainGlobals mg → ∃ fd : FuncData, (∀ (s : Shared) (u : Value), BindsTo s fd ⟨[u], []⟩ [(x, u)]) ∧ FnG P w K mg base CX k fa fd [x] sp)
    (want : ∀ H : Hp, Only H → SqL K H a (ns.map V.int) → sp [.ref a] H (fun v _ => v = .bl true) fun _ _ _ => False)
    (noX : ∀ H e s', CX [] H st (fun _ _ _ => False) e s' → False) :
    codeAny (model P w) callerA (.call (.ref fa) ⟨[.ref a], []⟩) (fun r s' => r = .ok (.ret (.bool true)) ∧ OldK st.heap s'.heap ∧ s'.os = st.os ∧ AllBare s'.gens) st := by
  have rel := vals_ints areInts
  have same := areInts.length
  -- what is told of any abstract heap that tracks the script at most
  suffices go : ∀ H : Hp, Only H → SqL K H a (ns.map V.int) → HOk P w H st.heap → (∀ b, H b ≠ none → b = a) → (H a ≠ none → K.lookup a = none) →
      codeAny (model P w) callerA (.call (.ref fa) ⟨[.ref a], []⟩) (fun r s' => r = .ok (.ret (.bool true)) ∧ OldK st.heap s'.heap ∧ s'.os = st.os ∧ AllBare s'.gens) st by
    rcases own : K.lookup a with _ | ob
    · -- the script is tracked, as a thing that stands still
      let frozen : HO := .frz { cls := .type "list", data := .seq vs.toArray } (.lst (ns.map V.int))
      refine go (fun b => if b = a then some frozen else none) ?_ ?_ ?_ ?_ (fun _ => own)
      · intro b
        by_cases e : b = a
        · exact Or.inr ⟨_, _, if_pos e⟩
        · exact Or.inl (if_neg e)
      · exact Or.inl (Or.inr ⟨_, if_pos rfl⟩)
      · intro b u e
        by_cases h : b = a
        · subst h
          cases (if_pos rfl).symm.trans e
          exact ⟨atA, by simpa using short, vs, _, rel, atA⟩
        · cases (if_neg h).symm.trans e
      · intro b e
        by_cases h : b = a
        · exact h
        · exact absurd (if_neg h) e
    · -- the script is one of the module's own objects
      have there := inK a ob own
      rw [atA] at there
      cases there
      refine go (fun _ => none) (fun _ => Or.inl rfl) ?_ (fun b u e => ?_) (fun b e => absurd rfl e) (fun e => absurd rfl e)
      · exact Or.inr ⟨_, vs.toArray, _, own, rfl, rfl, rfl, by rw [List.size_toArray, same]; exact short, by simpa using rel⟩
      · have e' : (none : Option HO) = some u := e
        cases e'
  intro H only seq ok just notK
  have keepB : ∀ {b : Addr} {o : Obj}, st.heap.get? b = some o → H b = none → (hidT st.heap H).get? b = some o := fun e n => hidT_get e n
  have dictFree : ∀ {b : Addr} {o : Obj} {es : Array DictEntry} {ep : Nat}, st.heap.get? b = some o → o.data = .dict es ep → H b = none := by
    intro b o es ep e d
    by_cases q : H b = none
    · exact q
    · have h := just b q
      subst h
      rw [atA] at e
      cases e
      have d' : Data.seq vs.toArray _ = Data.dict es ep := d
      cases d'
  have nsIn : ∀ {b : Addr} {m : Str → Option Value}, st.heap.Ns b m → (hidT st.heap H).Ns b m := by
    rintro b m ⟨o, es, ep, e, d, r⟩
    exact ⟨o, es, ep, keepB e (dictFree e d), d, r⟩
  have inBase : K.In (hidT st.heap H) := by
    intro b o e
    refine keepB (inK b o e) ?_
    by_cases q : H b = none
    · exact q
    · have h := just b q
      subst h
      rw [notK q] at e
      cases e
  have md : Mod K mg (hidT st.heap H) := by
    obtain ⟨mc, l1, l2⟩ := lim
    exact ⟨inBase, nsIn names, ⟨mb, nsIn bns, boot⟩, ⟨mc, nsIn l1, l2⟩⟩
  have env0 : Env0 P w K mg (hidT st.heap H) callerA [] st H :=
    ⟨rfl, md, fun b o e => of_hidT e, Nat.le_of_eq (hidT_size _ _), trivial, fun b hb => absurd (show b ∈ ([] : List Addr) from hb) (by simp), ok, .of_eq nogen⟩
  obtain ⟨fd, bind1, FF⟩ := F _ inBase (nsIn names)
  have ran := FF.go callerA [] st H ⟨[.ref a], []⟩ [.ref a] [.ref a] _ _ rfl room env0 (bind1 st (.ref a)) (.cons rfl .nil) (want H only seq)
  refine codeAny_mono ran ?_
  intro r s' h
  match r, h with
  | .error e, h => exact (noX H e s' h).elim
  | .ok (.ret u), h =>
    obtain ⟨v, H', os, bare, un, ok', rv, q⟩ := h
    have q' : v = .bl true := q
    subst q'
    obtain rfl : u = Value.bool true := rv
    refine ⟨rfl, OldK.of_keep ?_, os, bare⟩
    intro b o e
    by_cases q : H b = none
    · exact un.keep b o e q (fun z => absurd (show b ∈ ([] : List Addr) from z) (by simp)) (by simp)
    · rcases only b with z | ⟨ob, xs, z⟩
      · exact absurd z q
      · obtain ⟨e1, _⟩ := ok b _ z
        obtain ⟨e2, _⟩ := ok' b _ (un.frzs b ob _ z)
        rw [e] at e1
        cases e1
        exact e2

/-- the goal that the head leaves, from such a promise of the law's def -/
theorem walkG2 {l : PySem.W.OpenLaw} {n k : Nat} {q : Program} {loose : List Str} {XP : (Str → Option Value) → Heap → Prop} {YP : World → Heap → Prop} {d : DefRec} {K : Params → PySem.W.Frag} {CX : World → CXT} {sp : World → Sp} {x : Str}
    (h1 : l.most = some n) (h2 : n ≤ sizeLine) (h3 : d.params.defaults = []) (room : Room k callerA) (hY : ∀ (w : World) (h : Heap), YP w h → (K w.params).In h)
    (F : ∀ (w : World) (mg : Str → Option Value) (fa : Addr) (h : Heap), (K w.params).In h → h.Ns mainGlobals mg → mg d.name = some (.ref fa) →
      ∀ base : Heap, (K w.params).In base → base.Ns mainGlobals mg → ∃ fd : FuncData, (∀ (s : Shared) (u : Value), BindsTo s fd ⟨[u], []⟩ [(x, u)]) ∧ FnG l.prog w (K w.params) mg base (CX w) k fa fd [x] (sp w))
    (want : ∀ (w : World) (H : Hp) (a : Addr) (ns : List Int), ns.length ≤ n → Only H → SqL (K w.params) H a (ns.map V.int) → sp w [.ref a] H (fun v _ => v = .bl true) fun _ _ _ => False)
    (noX : ∀ (w : World) (H : Hp) (s : Shared) (e : Value) (s' : Shared), CX w [] H s (fun _ _ _ => False) e s' → False) :
    PySem.W.WalkO q loose XP YP l.row.toRowW d [] (fun f vs => PySem.call f vs) := by
  apply Att.attach_call h1 h3
  intro w s₀ s₁ mg mb fa o pm cd doc a vs ns G Y ho hd hcd hmg hobj hints hlen hg
  have inK := hY w _ Y
  have hF := F w mg fa _ inK G.T.g hmg
  exact lawG2 inK G.T.g G.T.b G.T.builtins G.T.nolimit hg hobj hints (Nat.le_trans hlen h2) room hF (fun H hO hS => want w H a ns hlen hO hS) fun H e s' => noX w H s₁ e s'
theorem FnF.fn {K : PySem.W.Frag} {nm q : Str} {st : Stmt} {f : Addr} (h : FnF K nm q st f) : ∃ (kV dc pm : Value) (an : Option Addr) (cd ct : Value), Fun K nm q st f (PySem.W.fnOf nm q (defArgs st) (defBody st) (defScope st) .none kV dc pm an cd ct) := by
  obtain ⟨oc, od, kV, dc, pm, an, cd, ct, sl, l, c, k⟩ := h
  exact ⟨kV, dc, pm, an, cd, ct, fun_mk l c k⟩
/-- what the head needs of the law -/
theorem CalG.law {P : Program} {w : World} {K : PySem.W.Frag} {mg : Str → Option Value} {base : Heap} {k : Nat} {st : Stmt} {sp : Sp} {fa : Addr} (C : CalG P w K mg base CX0 k "law" st ["script"] sp) (hfa : mg "law" = some (.ref fa))
    (hb : ∀ (kV dc pm : Value) (an : Option Addr) (cd ct : Value) (s : Shared) (u : Value), BindsTo s (PySem.W.fnOf "law" "law" (defArgs st) (defBody st) (defScope st) .none kV dc pm an cd ct) ⟨[u], []⟩ [("script", u)]) :
    ∃ fd : FuncData, (∀ (s : Shared) (u : Value), BindsTo s fd ⟨[u], []⟩ [("script", u)]) ∧ FnG P w K mg base CX0 k fa fd ["script"] sp := by
  obtain ⟨f, fd, F, m, _, _, kV, dc, pm, an, cd, ct, rfl⟩ := C
  have e := m.symm.trans hfa
  cases e
  exact ⟨_, hb kV dc pm an cd ct, F⟩
/-- the law of a script -/
def spLaw (K : PySem.W.Frag) : Sp := fun vs H Q _ => ∃ (a : Addr) (ns : List Int), vs = [.ref a] ∧ SqL K H a (ns.map V.int) ∧ ns.length ≤ 63 ∧ ∀ H', Q (.bl true) H'
theorem walk2 {l : PySem.W.OpenLaw} {q : Program} {loose : List Str} {XP : (Str → Option Value) → Heap → Prop} {YP : World → Heap → Prop} {d : DefRec} {K : Params → PySem.W.Frag} {k : Nat} (room : Room k callerA) (hn : l.most = some 63) (hdf : d.params.defaults = [])
    (hY : ∀ (w : World) (h : Heap), YP w h → (K w.params).In h)
    (F : ∀ (w : World) (mg : Str → Option Value) (fa : Addr) (h : Heap), (K w.params).In h → h.Ns mainGlobals mg → mg d.name = some (.ref fa) →
      ∀ base : Heap, (K w.params).In base → base.Ns mainGlobals mg → ∃ fd : FuncData, (∀ (s : Shared) (u : Value), BindsTo s fd ⟨[u], []⟩ [("script", u)]) ∧ FnG l.prog w (K w.params) mg base CX0 k fa fd ["script"] (spLaw (K w.params))) :
    PySem.W.WalkO q loose XP YP l.row.toRowW d [] (fun f vs => PySem.call f vs) :=
  walkG2 (n := 63) (k := k) (x := "script") (CX := fun _ => CX0) (sp := fun w => spLaw (K w.params)) hn (by decide) hdf room hY F (fun _ _ a ns hl _ hS => ⟨a, ns, rfl, hS, hl, fun _ => rfl⟩) fun _ _ _ _ _ z => z
/-- a written tuple of ints -/
theorem tup_of {K : PySem.W.Frag} {a : Addr} {od : Option Addr} {its : Array Value} {n : Nat} {sl : Array (Option Value)} {xs : List V} (l : K.lookup a = some ⟨.type "tuple", od, .seq its n, sl⟩) (hz : its.size ≤ sizeLine) (r : Vals xs its.toList) : ∀ H, SqT K H a xs :=
  fun H => .inr ⟨_, its, n, l, rfl, rfl, hz, r⟩
end Wb

set_option Elab.async false
set_option linter.all false
set_option maxRecDepth 100000
set_option maxHeartbeats 4000000
/-! Wd0: what may be shown, ints of some hundred figures among it. -/
namespace Wb
open PySem PySem.Spec PyProof.Rows L2
/-- what repr asks of data -/
def Shw (d : PyData) : Prop := d.showable = true ∧ d.hasDict = false ∧ d.depth ≤ 60 ∧ d.shown.length ≤ sizeLine
structure Tb (n W : Nat) (e : PyData) : Prop where
  shows : e.showable = true
  noDict : e.hasDict = false
  deep : e.depth ≤ n
  short : e.leavesShort 2000 = true
  light : e.bulk ≤ W
structure TbAll (n W : Nat) (es : List PyData) : Prop where
  shows : PyData.showableAll es = true
  noDict : PyData.hasDictAll es = false
  deep : PyData.depthAll es ≤ n
  short : PyData.leavesShortAll 2000 es = true
  light : PyData.bulkAll es ≤ W
theorem Tb.shw {n W : Nat} {e : PyData} (t : Tb n W e) (h : n ≤ 60 := by decide) (hw : W ≤ 8000 := by decide) : Shw e := by
  refine ⟨t.shows, t.noDict, Nat.le_trans t.deep h, ?_⟩
  have q := PyData.shown_le_bulk 2000 (by decide) e t.short
  have l := t.light
  rw [sizeLine_eq]
  omega
theorem Tb.more {n m W Z : Nat} {e : PyData} (t : Tb n W e) (h1 : n ≤ m) (h2 : W ≤ Z) : Tb m Z e :=
  ⟨t.shows, t.noDict, Nat.le_trans t.deep h1, t.short, Nat.le_trans t.light h2⟩
theorem TbAll.nil {n : Nat} : TbAll n 0 [] := ⟨by simp [PyData.showableAll], by simp [PyData.hasDictAll], by simp [PyData.depthAll], by simp [PyData.leavesShortAll], by simp [PyData.bulkAll]⟩
theorem TbAll.cons {n V W : Nat} {e : PyData} {es : List PyData} (t : Tb n V e) (h : TbAll n W es) : TbAll n (V + 1 + W) (e :: es) := by
  obtain ⟨a1, a2, a3, a4, a5⟩ := t
  obtain ⟨b1, b2, b3, b4, b5⟩ := h
  refine ⟨by simp [PyData.showableAll, a1, b1], by simp [PyData.hasDictAll, a2, b2], ?_, by simp [PyData.leavesShortAll, a4, b4], ?_⟩
  · simp only [PyData.depthAll]
    exact Nat.max_le.mpr ⟨a3, b3⟩
  · simp only [PyData.bulkAll]
    omega
theorem TbAll.of {n W : Nat} : ∀ {es : List PyData}, (∀ e ∈ es, Tb n W e) → TbAll n (es.length * (W + 1)) es
  | [], _ => by
    have := TbAll.nil (n := n)
    simpa using this
  | e :: es, h => by
    have a := TbAll.cons (h e List.mem_cons_self) (TbAll.of fun x hx => h x (List.mem_cons_of_mem _ hx))
    have q : (e :: es).length * (W + 1) = W + 1 + es.length * (W + 1) := by
      rw [List.length_cons, Nat.succ_mul]
      omega
    rw [q]
    exact a
theorem TbAll.more {n m W Z : Nat} {es : List PyData} (t : TbAll n W es) (h1 : n ≤ m) (h2 : W ≤ Z) : TbAll m Z es :=
  ⟨t.shows, t.noDict, Nat.le_trans t.deep h1, t.short, Nat.le_trans t.light h2⟩
theorem TbAll.list {n W : Nat} {es : List PyData} (h : TbAll n W es) : Tb (n + 1) W (.list es) := by
  obtain ⟨b1, b2, b3, b4, b5⟩ := h
  refine ⟨by simpa [PyData.showable] using b1, by simpa [PyData.hasDict] using b2, ?_, by simpa [PyData.leavesShort] using b4, by simpa [PyData.bulk] using b5⟩
  simp only [PyData.depth]
  omega
theorem TbAll.tuple {n W : Nat} {es : List PyData} (h : TbAll n W es) : Tb (n + 1) W (.tuple es) := by
  obtain ⟨b1, b2, b3, b4, b5⟩ := h
  refine ⟨by simpa [PyData.showable] using b1, by simpa [PyData.hasDict] using b2, ?_, by simpa [PyData.leavesShort] using b4, by simpa [PyData.bulk] using b5⟩
  simp only [PyData.depth]
  omega
theorem tb_none : Tb 0 0 .none := ⟨by decide +kernel, by decide +kernel, by decide +kernel, by decide +kernel, by decide +kernel⟩
theorem tb_bool (b : Bool) : Tb 0 0 (.bool b) := by cases b <;> exact ⟨by decide +kernel, by decide +kernel, by decide +kernel, by decide +kernel, by decide +kernel⟩
theorem tb_int {i : Int} (h : i.natAbs < 2 ^ 1900) : Tb 0 0 (.int i) := by
  have l : i.natAbs.log2 < 1900 := log_le h (by decide)
  refine ⟨?_, by simp [PyData.hasDict], by simp [PyData.depth], ?_, by simp [PyData.bulk]⟩
  · simp only [PyData.showable, decide_eq_true_eq]
    omega
  · simp only [PyData.leavesShort, decide_eq_true_eq]
    have := int_text_length_le (a := i) (by decide) l
    show (Str.ofString (toString i)).length ≤ 2000
    have e : (Str.ofString (toString i)).length = (toString i).length := by
      rw [Str.ofString_eq_toList]
      simp [Str.length]
      exact String.length_toList
    rw [e]
    omega
theorem tb_str {x : Str} {n : Nat} (h : ∀ a ∈ x.cps.toList, a < 16 ^ 8) (few : x.length ≤ n) : Tb 0 n (.str x) := by
  refine ⟨by simp [PyData.showable], by simp [PyData.hasDict], by simp [PyData.depth], ?_, ?_⟩
  · simp only [PyData.leavesShort, List.all_eq_true, decide_eq_true_eq]
    exact h
  · simp only [PyData.bulk]
    exact few
end Wb

set_option Elab.async false
set_option linter.all false
set_option maxRecDepth 100000
set_option maxHeartbeats 4000000
/-! Wv0: what an expression is worth, told apart from what may change: a base heap that only grows, values by relations. -/
namespace Wv
open PySem PySem.Spec PyProof.Rows L2 Wb

/-- a base within a heap, and both later: nothing hidden comes into the base -/
structure Ext (B H B' H' : Hp) : Prop where
  hh : Same H H'
  bb : Same B B'
  bh : Same B' H'
  nw : ∀ b, H b ≠ none → B b = none → B' b = none
theorem Ext.refl {B H : Hp} (s : Same B H) : Ext B H B H := ⟨Same.refl _, Same.refl _, s, fun _ _ h => h⟩
theorem Ext.trans {B H B1 H1 B2 H2 : Hp} (a : Ext B H B1 H1) (b : Ext B1 H1 B2 H2) : Ext B H B2 H2 :=
  ⟨a.hh.trans b.hh, a.bb.trans b.bb, b.bh, fun x h1 h2 => by
    refine b.nw x ?_ (a.nw x h1 h2)
    cases e : H x with
    | none => exact absurd e h1
    | some o =>
      rw [a.hh x o e]
      exact fun z => nomatch z⟩
/-- a new object, in the base too -/
theorem Ext.new {B H : Hp} {p : Addr} {o : HO} (s : Same B H) (h : H p = none) : Ext B H (upd B p o) (upd H p o) :=
  ⟨new_same h, new_same (s.free h), fun b u z => by
    by_cases e : b = p
    · subst e
      rw [upd_same] at *
      exact z
    · rw [upd_ne e] at *
      exact s b u z, fun b h1 h2 => by
    have e : b ≠ p := fun e => h1 (by rw [e]; exact h)
    rw [upd_ne e]
    exact h2⟩
/-- .. of the heap alone -/
theorem Ext.own {B H : Hp} {p : Addr} {o : HO} (s : Same B H) (h : H p = none) : Ext B H B (upd H p o) :=
  ⟨new_same h, Same.refl _, s.trans (new_same h), fun _ _ h => h⟩

/-! ### relations -/
abbrev Rel := Hp → V → Prop
class Mo (R : Rel) : Prop where
  mo : ∀ {B B' : Hp} {v : V}, Same B B' → R B v → R B' v
def dat (K : PySem.W.Frag) (d : PyData) : Rel := fun B v => Dp K B v d
instance {K : PySem.W.Frag} {d : PyData} : Mo (dat K d) := ⟨fun s h => dpMono s d _ h⟩
def AllR : List Rel → Hp → List V → Prop
  | [], _, vs => vs = []
  | R :: Rs, B, vs => ∃ v r, vs = v :: r ∧ R B v ∧ AllR Rs B r
class MoA (Rs : List Rel) : Prop where
  mo : ∀ {B B' : Hp} {vs : List V}, Same B B' → AllR Rs B vs → AllR Rs B' vs
instance : MoA [] := ⟨fun _ h => h⟩
instance {R : Rel} {Rs : List Rel} [m : Mo R] [t : MoA Rs] : MoA (R :: Rs) := ⟨fun s ⟨v, r, e, h, g⟩ => ⟨v, r, e, m.mo s h, t.mo s g⟩⟩
theorem moA_of {Rs : List Rel} (h : ∀ R ∈ Rs, Mo R) : MoA Rs := by
  induction Rs with
  | nil => exact inferInstance
  | cons R Rs ih =>
    have := h R List.mem_cons_self
    have := ih fun R hR => h R (List.mem_cons_of_mem _ hR)
    exact inferInstance
instance {K : PySem.W.Frag} {ds : List PyData} : MoA (ds.map (dat K)) := moA_of fun R h => by
  obtain ⟨d, _, rfl⟩ := List.mem_map.mp h
  exact inferInstance
theorem allR_dp {K : PySem.W.Frag} {B : Hp} : ∀ {ds : List PyData} {vs : List V}, AllR (ds.map (dat K)) B vs → DpAll K B vs ds
  | [], _, h => by
    have h : _ = [] := h
    subst h
    exact .nil
  | d :: ds, _, h => by
    obtain ⟨v, r, rfl, h1, h2⟩ := h
    exact .cons h1 (allR_dp h2)
theorem dp_allR {K : PySem.W.Frag} {B : Hp} : ∀ {ds : List PyData} {vs : List V}, DpAll K B vs ds → AllR (ds.map (dat K)) B vs
  | _, _, .nil => rfl
  | _, _, .cons h t => ⟨_, _, rfl, h, dp_allR t⟩
theorem allR_len {B : Hp} : ∀ {Rs : List Rel} {vs : List V}, AllR Rs B vs → vs.length = Rs.length
  | [], _, h => by
    have h : _ = [] := h
    subst h
    rfl
  | R :: Rs, _, h => by
    obtain ⟨v, r, rfl, _, h2⟩ := h
    simp [allR_len h2]
theorem allR_at {B : Hp} : ∀ {Rs : List Rel} {vs : List V} {i : Nat} {v : V}, AllR Rs B vs → vs[i]? = some v → ∃ R, Rs[i]? = some R ∧ R B v
  | [], _, _, _, h, z => by
    have h : _ = [] := h
    subst h
    cases z
  | R :: Rs, _, 0, _, h, z => by
    obtain ⟨v, r, rfl, h1, _⟩ := h
    cases z
    exact ⟨R, rfl, h1⟩
  | R :: Rs, _, i + 1, _, h, z => by
    obtain ⟨v, r, rfl, _, h2⟩ := h
    exact allR_at (i := i) h2 z
theorem allR_of {B : Hp} : ∀ {Rs : List Rel} {vs : List V} {i : Nat} {R : Rel}, AllR Rs B vs → Rs[i]? = some R → ∃ v, vs[i]? = some v ∧ R B v
  | R :: Rs, _, 0, _, h, z => by
    obtain ⟨v, r, rfl, h1, _⟩ := h
    cases z
    exact ⟨v, rfl, h1⟩
  | R :: Rs, _, i + 1, _, h, z => by
    obtain ⟨v, r, rfl, _, h2⟩ := h
    exact allR_of (i := i) h2 z
theorem allR_app {B : Hp} : ∀ {Rs Ss : List Rel} {vs ws : List V}, AllR Rs B vs → AllR Ss B ws → AllR (Rs ++ Ss) B (vs ++ ws)
  | [], _, _, _, h, g => by
    have h : _ = [] := h
    subst h
    exact g
  | R :: Rs, _, _, _, h, g => by
    obtain ⟨v, r, rfl, h1, h2⟩ := h
    exact ⟨v, r ++ _, rfl, h1, allR_app h2 g⟩
theorem allR_snoc {B : Hp} {R : Rel} {Rs : List Rel} {vs : List V} {v : V} (h : AllR Rs B vs) (g : R B v) : AllR (Rs ++ [R]) B (vs ++ [v]) := allR_app h ⟨v, [], rfl, g, rfl⟩
/-- a list, a tuple of such -/
def lstR (K : PySem.W.Frag) (Rs : List Rel) : Rel := fun B v => ∃ a xs, v = .ref a ∧ SqL K B a xs ∧ AllR Rs B xs
def tupR (K : PySem.W.Frag) (Rs : List Rel) : Rel := fun B v => ∃ a xs, v = .ref a ∧ SqT K B a xs ∧ AllR Rs B xs
instance {K : PySem.W.Frag} {Rs : List Rel} [m : MoA Rs] : Mo (lstR K Rs) := ⟨fun s ⟨a, xs, e, h, g⟩ => ⟨a, xs, e, s.seq h, m.mo s g⟩⟩
instance {K : PySem.W.Frag} {Rs : List Rel} [m : MoA Rs] : Mo (tupR K Rs) := ⟨fun s ⟨a, xs, e, h, g⟩ => ⟨a, xs, e, seqT s h, m.mo s g⟩⟩
theorem lstR_dat {K : PySem.W.Frag} {ds : List PyData} {B : Hp} {v : V} (h : lstR K (ds.map (dat K)) B v) : dat K (.list ds) B v := by
  obtain ⟨a, xs, rfl, h, g⟩ := h
  exact .lst h (allR_dp g)
theorem tupR_dat {K : PySem.W.Frag} {ds : List PyData} {B : Hp} {v : V} (h : tupR K (ds.map (dat K)) B v) : dat K (.tuple ds) B v := by
  obtain ⟨a, xs, rfl, h, g⟩ := h
  exact .tup h (allR_dp g)
theorem dat_lstR {K : PySem.W.Frag} {ds : List PyData} {B : Hp} {v : V} (h : dat K (.list ds) B v) : lstR K (ds.map (dat K)) B v := by
  cases h with
  | lst h1 h2 => exact ⟨_, _, rfl, h1, dp_allR h2⟩
theorem dat_tupR {K : PySem.W.Frag} {ds : List PyData} {B : Hp} {v : V} (h : dat K (.tuple ds) B v) : tupR K (ds.map (dat K)) B v := by
  cases h with
  | tup h1 h2 => exact ⟨_, _, rfl, h1, dp_allR h2⟩
theorem dat_int {K : PySem.W.Frag} {i : Int} {B : Hp} {v : V} (h : dat K (.int i) B v) : v = .int i := by cases h; rfl
theorem dat_str {K : PySem.W.Frag} {i : Str} {B : Hp} {v : V} (h : dat K (.str i) B v) : v = .str i := by cases h; rfl
theorem dat_bl {K : PySem.W.Frag} {i : Bool} {B : Hp} {v : V} (h : dat K (.bool i) B v) : v = .bl i := by cases h; rfl

/-! ### what evaluates to what -/
def De (te : TE) (σ : L2.St) (B : Hp) (R : Rel) : Prop := ∀ B1 H, Same B B1 → Same B1 H → ∀ Q : VK, (∀ v B' H', Ext B1 H B' H' → R B' v → Q v H') → te σ H Q
def Da (ta : TA) (σ : L2.St) (B : Hp) (Rs : List Rel) : Prop := ∀ B1 H, Same B B1 → Same B1 H → ∀ Q : List V → Hp → Prop, (∀ vs B' H', Ext B1 H B' H' → AllR Rs B' vs → Q vs H') → ta σ H Q
def Dt (tt : TT) (σ : L2.St) (B : Hp) (b : Bool) : Prop := ∀ B1 H, Same B B1 → Same B1 H → ∀ Q : Bool → Hp → Prop, (∀ B' H', Ext B1 H B' H' → Q b H') → tt σ H Q
def Do (to : TO) (σ : L2.St) (B : Hp) (o : Option Int) : Prop := ∀ B1 H, Same B B1 → Same B1 H → ∀ Q : Option Int → Hp → Prop, (∀ B' H', Ext B1 H B' H' → Q o H') → to σ H Q
/-- operations on values -/
def Rv (r : R2) (B : Hp) (R S T : Rel) : Prop := ∀ x y B1 H, Same B B1 → Same B1 H → R B1 x → S B1 y → ∀ Q : VK, (∀ v B' H', Ext B1 H B' H' → T B' v → Q v H') → r x y H Q
def Ru (r : V → Hp → VK → Prop) (B : Hp) (R T : Rel) : Prop := ∀ x B1 H, Same B B1 → Same B1 H → R B1 x → ∀ Q : VK, (∀ v B' H', Ext B1 H B' H' → T B' v → Q v H') → r x H Q
def Rc (r : List V → Hp → VK → Prop) (B : Hp) (Rs : List Rel) (T : Rel) : Prop := ∀ vs B1 H, Same B B1 → Same B1 H → AllR Rs B1 vs → ∀ Q : VK, (∀ v B' H', Ext B1 H B' H' → T B' v → Q v H') → r vs H Q

section
variable {K : PySem.W.Frag} {σ : L2.St} {B B' : Hp} {ta tb te : TE} {tt tu : TT} {R S T U : Rel} {Rs : List Rel} {x v : V}
theorem De.mono (s : Same B B') (h : De te σ B R) : De te σ B' R := fun B1 H s1 s2 => h B1 H (s.trans s1) s2
theorem Da.mono {ta : TA} (s : Same B B') (h : Da ta σ B Rs) : Da ta σ B' Rs := fun B1 H s1 s2 => h B1 H (s.trans s1) s2
theorem Dt.mono {b : Bool} (s : Same B B') (h : Dt tt σ B b) : Dt tt σ B' b := fun B1 H s1 s2 => h B1 H (s.trans s1) s2
theorem De.conv (h : De te σ B R) (f : ∀ B v, R B v → S B v) : De te σ B S := fun B1 H s1 s2 Q q => h B1 H s1 s2 Q fun v B2 H2 e hv => q v B2 H2 e (f _ _ hv)
theorem De.eq {d e : PyData} (h : De te σ B (dat K d)) (z : d = e) : De te σ B (dat K e) := z ▸ h
theorem Dt.eq {b c : Bool} (h : Dt tt σ B b) (z : b = c) : Dt tt σ B c := z ▸ h
theorem De.var {i : Nat} [m : Mo R] (hR : R B v) (h : σ[i]? = some (some v)) : De (tVar i) σ B R := fun B1 H s1 s2 Q q => ⟨v, h, q v B1 H (.refl s2) (m.mo s1 hR)⟩
theorem De.cst (h : ∀ B, R B v) : De (tC v) σ B R := fun B1 H _ s2 Q q => q v B1 H (.refl s2) (h _)
theorem De.int {n : Int} : De (tC (.int n)) σ B (dat K (.int n)) := .cst fun _ => .int n
theorem De.str {z : Str} : De (tC (.str z)) σ B (dat K (.str z)) := .cst fun _ => .str z
theorem De.bl {b : Bool} : De (tC (.bl b)) σ B (dat K (.bool b)) := .cst fun _ => .bl b
theorem De.non : De (tC .non) σ B (dat K .none) := .cst fun _ => .non
theorem Da.nil : Da tNil σ B [] := fun B1 H _ s2 Q q => q [] B1 H (.refl s2) rfl
theorem Da.cons {tr : TA} [m : Mo R] (h : De ta σ B R) (t : Da tr σ B Rs) : Da (tCons ta tr) σ B (R :: Rs) := fun B1 H s1 s2 Q q =>
  h B1 H s1 s2 _ fun v B2 H2 e hv => t B2 H2 (s1.trans e.bb) e.bh _ fun vs B3 H3 e2 hvs => q _ B3 H3 (e.trans e2) ⟨v, vs, rfl, m.mo e2.bb hv, hvs⟩
theorem De.lst {ta : TA} [m : MoA Rs] (h : Da ta σ B Rs) (hz : Rs.length ≤ sizeLine) : De (tLst ta) σ B (lstR K Rs) := fun B1 H s1 s2 Q q =>
  h B1 H s1 s2 _ fun vs B2 H2 e hvs => ⟨by rw [allR_len hvs]; exact hz, fun p hp => q _ (upd B2 p (.lst vs)) _ (e.trans (Ext.new e.bh hp)) ⟨p, vs, rfl, SqL.of upd_same, m.mo (new_same (e.bh.free hp)) hvs⟩⟩
theorem De.tup {ta : TA} [m : MoA Rs] (h : Da ta σ B Rs) (hz : Rs.length ≤ sizeLine) : De (tTup ta) σ B (tupR K Rs) := fun B1 H s1 s2 Q q =>
  h B1 H s1 s2 _ fun vs B2 H2 e hvs => ⟨by rw [allR_len hvs]; exact hz, fun p hp => q _ (upd B2 p (.tup vs)) _ (e.trans (Ext.new e.bh hp)) ⟨p, vs, rfl, SqT.of upd_same, m.mo (new_same (e.bh.free hp)) hvs⟩⟩
theorem De.op {r : R2} [m : Mo R] (ha : De ta σ B R) (hb : De tb σ B S) (hr : Rv r B R S T) : De (tOp r ta tb) σ B T := fun B1 H s1 s2 Q q =>
  ha B1 H s1 s2 _ fun x B2 H2 e hx => hb B2 H2 (s1.trans e.bb) e.bh _ fun y B3 H3 e2 hy => hr x y B3 H3 ((s1.trans e.bb).trans e2.bb) e2.bh (m.mo e2.bb hx) hy Q fun v B4 H4 e3 hv => q v B4 H4 ((e.trans e2).trans e3) hv
theorem De.un {r : V → Hp → VK → Prop} (ha : De ta σ B R) (hr : Ru r B R T) : De (tUn r ta) σ B T := fun B1 H s1 s2 Q q =>
  ha B1 H s1 s2 _ fun x B2 H2 e hx => hr x B2 H2 (s1.trans e.bb) e.bh hx Q fun v B4 H4 e3 hv => q v B4 H4 (e.trans e3) hv
theorem De.cb {r : List V → Hp → VK → Prop} {ta : TA} (ha : Da ta σ B Rs) (hr : Rc r B Rs T) : De (tCB r ta) σ B T := fun B1 H s1 s2 Q q =>
  ha B1 H s1 s2 _ fun x B2 H2 e hx => hr x B2 H2 (s1.trans e.bb) e.bh hx Q fun v B4 H4 e3 hv => q v B4 H4 (e.trans e3) hv
/-- what a def is worth, that changes nothing that was -/
def Pf {α : Type} (args : α → List Rel) (pre : α → Prop) (res : α → Rel) : Sp := fun vs H Q _ => ∃ (B : Hp) (a : α), Same B H ∧ AllR (args a) B vs ∧ pre a ∧ ∀ v B' H', Ext B H B' H' → res a B' v → Q v H'
theorem De.call {α : Type} {args : α → List Rel} {pre : α → Prop} {res : α → Rel} {E : XK} {ta : TA} (a : α) (ha : Da ta σ B (args a)) (hp : pre a) : De (tCall (Pf args pre res) [] E ta) σ B (res a) := fun B1 H s1 s2 Q q =>
  ha B1 H s1 s2 _ fun x B2 H2 e hx => by
    show Pf args pre res (x ++ []) H2 Q E
    rw [List.append_nil]
    exact ⟨B2, a, e.bh, hx, hp, fun v B4 H4 e3 hv => q v B4 H4 (e.trans e3) hv⟩
/-- .. by names: the values as they are written, the parameters' places among them -/
theorem De.callK {α : Type} {args : α → List Rel} {pre : α → Prop} {res : α → Rel} {E : XK} {tk : TA} {ix : List Nat} {n : Nat} (a : α) (ha : Da tk σ B Rs) (hn : Rs.length = n) (hx : ∀ B vs, AllR Rs B vs → AllR (args a) B (kwV ix vs)) (hp : pre a) : De (tCalK (Pf args pre res) ix n E tk) σ B (res a) := fun B1 H s1 s2 Q q =>
  ha B1 H s1 s2 _ fun x B2 H2 e hv => ⟨by rw [allR_len hv]; exact hn, B2, a, e.bh, hx _ _ hv, hp, fun v B4 H4 e3 hv => q v B4 H4 (e.trans e3) hv⟩
theorem Do.none : Do tNoPart σ B none := fun B1 H _ s2 Q q => q B1 H (.refl s2)
theorem Do.some {i : Int} (h : De te σ B (dat K (.int i))) : Do (tPart te) σ B (some i) := fun B1 H s1 s2 Q q =>
  h B1 H s1 s2 _ fun v B2 H2 e hv => ⟨i, dat_int hv, q B2 H2 e⟩
theorem De.sl {r : V → Option Int → Option Int → Hp → VK → Prop} {tl th : TO} {lo hi : Option Int} [m : Mo R] (h : De te σ B R) (h1 : Do tl σ B lo) (h2 : Do th σ B hi)
    (hr : ∀ x B1 H, Same B B1 → Same B1 H → R B1 x → ∀ Q : VK, (∀ v B' H', Ext B1 H B' H' → T B' v → Q v H') → r x lo hi H Q) : De (tSl r te tl th) σ B T := fun B1 H s1 s2 Q q =>
  h B1 H s1 s2 _ fun x B2 H2 e hx => h1 B2 H2 (s1.trans e.bb) e.bh _ fun B3 H3 e2 => h2 B3 H3 ((s1.trans e.bb).trans e2.bb) e2.bh _ fun B4 H4 e3 =>
    hr x B4 H4 (((s1.trans e.bb).trans e2.bb).trans e3.bb) e3.bh (m.mo (e2.bb.trans e3.bb) hx) Q fun v B5 H5 e4 hv => q v B5 H5 (((e.trans e2).trans e3).trans e4) hv

/-! ### tests, choices -/
theorem Dt.test {b : Bool} (h : De te σ B (dat K (.bool b))) : Dt (tTest te) σ B b := fun B1 H s1 s2 Q q => h B1 H s1 s2 _ fun v B2 H2 e hv => ⟨b, dat_bl hv, q B2 H2 e⟩
theorem Dt.tB {b : Bool} (h : De te σ B (dat K (.bool b))) : Dt (tB te) σ B b := fun B1 H s1 s2 Q q => h B1 H s1 s2 _ fun v B2 H2 e hv => ⟨b, dat_bl hv, q B2 H2 e⟩
theorem Dt.and {a b : Bool} (h1 : Dt tt σ B a) (h2 : a = true → Dt tu σ B b) : Dt (tAnd tt tu) σ B (a && b) := fun B1 H s1 s2 Q q => h1 B1 H s1 s2 _ fun B2 H2 e => by
  cases a with
  | true => exact h2 rfl B2 H2 (s1.trans e.bb) e.bh Q fun B3 H3 e3 => q B3 H3 (e.trans e3)
  | false => exact q B2 H2 e
theorem Dt.or {a b : Bool} (h1 : Dt tt σ B a) (h2 : a = false → Dt tu σ B b) : Dt (tOr tt tu) σ B (a || b) := fun B1 H s1 s2 Q q => h1 B1 H s1 s2 _ fun B2 H2 e => by
  cases a with
  | true => exact q B2 H2 e
  | false => exact h2 rfl B2 H2 (s1.trans e.bb) e.bh Q fun B3 H3 e3 => q B3 H3 (e.trans e3)
theorem Dt.not {a : Bool} (h1 : Dt tt σ B a) : Dt (tNot tt) σ B (!a) := fun B1 H s1 s2 Q q => h1 B1 H s1 s2 _ q
theorem Dt.yes : Dt tYes σ B true := fun B1 H _ s2 Q q => q B1 H (.refl s2)
theorem De.ite {b : Bool} (h : Dt tt σ B b) (h1 : b = true → De ta σ B R) (h2 : b = false → De tb σ B R) : De (tIf tt ta tb) σ B R := fun B1 H s1 s2 Q q => h B1 H s1 s2 _ fun B2 H2 e => by
  cases b with
  | true => exact h1 rfl B2 H2 (s1.trans e.bb) e.bh Q fun v B3 H3 e3 => q v B3 H3 (e.trans e3)
  | false => exact h2 rfl B2 H2 (s1.trans e.bb) e.bh Q fun v B3 H3 e3 => q v B3 H3 (e.trans e3)
theorem De.iteD {b : Bool} {d e : PyData} (h : Dt tt σ B b) (h1 : b = true → De ta σ B (dat K d)) (h2 : b = false → De tb σ B (dat K e)) : De (tIf tt ta tb) σ B (dat K (if b = true then d else e)) :=
  .ite h (fun z => by rw [if_pos z]; exact h1 z) (fun z => by rw [if_neg (by rw [z]; decide)]; exact h2 z)
theorem De.andV {a b : Bool} (h1 : De ta σ B (dat K (.bool a))) (h2 : a = true → De tb σ B (dat K (.bool b))) : De (tAndV ta tb) σ B (dat K (.bool (a && b))) := fun B1 H s1 s2 Q q => h1 B1 H s1 s2 _ fun v B2 H2 e hv => ⟨a, dat_bl hv, by
  cases a with
  | true => exact h2 rfl B2 H2 (s1.trans e.bb) e.bh Q fun v B3 H3 e3 => q v B3 H3 (e.trans e3)
  | false => exact q _ B2 H2 e (.bl false)⟩
theorem De.orV {a b : Bool} (h1 : De ta σ B (dat K (.bool a))) (h2 : a = false → De tb σ B (dat K (.bool b))) : De (tOrV ta tb) σ B (dat K (.bool (a || b))) := fun B1 H s1 s2 Q q => h1 B1 H s1 s2 _ fun v B2 H2 e hv => ⟨a, dat_bl hv, by
  cases a with
  | true => exact q _ B2 H2 e (.bl true)
  | false => exact h2 rfl B2 H2 (s1.trans e.bb) e.bh Q fun v B3 H3 e3 => q v B3 H3 (e.trans e3)⟩
theorem De.notV {a : Bool} (h1 : De ta σ B (dat K (.bool a))) : De (tNotV ta) σ B (dat K (.bool (!a))) := fun B1 H s1 s2 Q q => h1 B1 H s1 s2 _ fun v B2 H2 e hv => ⟨a, dat_bl hv, q _ B2 H2 e (.bl _)⟩

/-! ### operations -/
theorem Rv.I0 {f : Int → Int → Int} {i j : Int} : Rv (rI0 fun i j => V.int (f i j)) B (dat K (.int i)) (dat K (.int j)) (dat K (.int (f i j))) := fun x y B1 H _ s2 hx hy Q q =>
  ⟨i, j, dat_int hx, dat_int hy, q _ B1 H (.refl s2) (.int _)⟩
theorem Rv.I0b {f : Int → Int → Bool} {i j : Int} : Rv (rI0 fun i j => V.bl (f i j)) B (dat K (.int i)) (dat K (.int j)) (dat K (.bool (f i j))) := fun x y B1 H _ s2 hx hy Q q =>
  ⟨i, j, dat_int hx, dat_int hy, q _ B1 H (.refl s2) (.bl _)⟩
theorem Rv.I {C : Int → Int → Prop} {f : Int → Int → Int} {i j : Int} (hc : C i j) : Rv (rI C fun i j => V.int (f i j)) B (dat K (.int i)) (dat K (.int j)) (dat K (.int (f i j))) := fun x y B1 H _ s2 hx hy Q q =>
  ⟨i, j, dat_int hx, dat_int hy, hc, q _ B1 H (.refl s2) (.int _)⟩
theorem Rv.addS {x y : Str} (hz : x.length + y.length ≤ sizeLine) : Rv (fun x y H Q => ∃ i j, x = .str i ∧ y = .str j ∧ i.length + j.length ≤ sizeLine ∧ Q (.str (i ++ j)) H) B (dat K (.str x)) (dat K (.str y)) (dat K (.str (x ++ y))) := fun _ _ B1 H _ s2 hx hy Q q =>
  ⟨x, y, dat_str hx, dat_str hy, hz, q _ B1 H (.refl s2) (.str _)⟩
theorem Rv.eqD {d e : PyData} (hd : SeqAt.shaped d = true) (he : SeqAt.shaped e = true) : Rv (rEqD K) B (dat K d) (dat K e) (dat K (.bool (PyData.eqv d e))) := fun x y B1 H _ s2 hx hy Q q =>
  ⟨d, e, dpMono s2 _ _ hx, dpMono s2 _ _ hy, hd, he, q _ B1 H (.refl s2) (.bl _)⟩
theorem Rv.neD {d e : PyData} (hd : SeqAt.shaped d = true) (he : SeqAt.shaped e = true) : Rv (rNeD K) B (dat K d) (dat K e) (dat K (.bool (!PyData.eqv d e))) := fun x y B1 H _ s2 hx hy Q q =>
  ⟨d, e, dpMono s2 _ _ hx, dpMono s2 _ _ hy, hd, he, q _ B1 H (.refl s2) (.bl _)⟩
theorem Rv.inL {d : PyData} {ds : List PyData} (hd : SeqAt.shaped d = true) (he : SeqAt.shaped (.list ds) = true) : Rv (rInD K) B (dat K d) (dat K (.list ds)) (dat K (.bool (ds.any fun z => PyData.eqv z d))) := fun x y B1 H _ s2 hx hy Q q =>
  ⟨d, ds, dpMono s2 _ _ hx, dpMono s2 _ _ hy, hd, he, q _ B1 H (.refl s2) (.bl _)⟩
theorem Rv.notInL {d : PyData} {ds : List PyData} (hd : SeqAt.shaped d = true) (he : SeqAt.shaped (.list ds) = true) : Rv (rNotInD K) B (dat K d) (dat K (.list ds)) (dat K (.bool (!ds.any fun z => PyData.eqv z d))) := fun x y B1 H _ s2 hx hy Q q =>
  ⟨d, ds, dpMono s2 _ _ hx, dpMono s2 _ _ hy, hd, he, q _ B1 H (.refl s2) (.bl _)⟩
theorem allR_atI {xs : List V} {i : Int} (h : AllR Rs B xs) (z : atI Rs i = some R) : ∃ v, atI xs i = some v ∧ R B v := by
  unfold atI at *
  rw [allR_len h]
  cases e : ixN Rs.length i with
  | none =>
    rw [e] at z
    cases z
  | some j =>
    rw [e] at z
    exact allR_of h z
theorem Rv.ixL {i : Int} (z : atI Rs i = some R) : Rv (rIxL K) B (lstR K Rs) (dat K (.int i)) R := fun x y B1 H _ s2 hx hy Q q => by
  obtain ⟨a, xs, rfl, h, g⟩ := hx
  obtain ⟨v, hv, hR⟩ := allR_atI g z
  exact ⟨a, xs, i, v, rfl, dat_int hy, s2.seq h, hv, q v B1 H (.refl s2) hR⟩
theorem Rv.ixT {i : Int} (z : atI Rs i = some R) : Rv (rIxT K) B (tupR K Rs) (dat K (.int i)) R := fun x y B1 H _ s2 hx hy Q q => by
  obtain ⟨a, xs, rfl, h, g⟩ := hx
  obtain ⟨v, hv, hR⟩ := allR_atI g z
  exact ⟨a, xs, i, v, rfl, dat_int hy, seqT s2 h, hv, q v B1 H (.refl s2) hR⟩
theorem atI_map {α β : Type} (f : α → β) {xs : List α} {i : Int} {x : α} (h : atI xs i = some x) : atI (xs.map f) i = some (f x) := by
  unfold atI at *
  rw [List.length_map]
  cases e : ixN xs.length i with
  | none =>
    rw [e] at h
    cases h
  | some j =>
    rw [e] at h
    have h : xs[j]? = some x := h
    show (xs.map f)[j]? = some (f x)
    rw [List.getElem?_map, h]
    rfl
theorem Rv.ixLD {ds : List PyData} {d : PyData} {i : Int} (z : atI ds i = some d) : Rv (rIxL K) B (dat K (.list ds)) (dat K (.int i)) (dat K d) := fun x y B1 H s1 s2 hx hy => Rv.ixL (K := K) (atI_map (dat K) z) x y B1 H s1 s2 (dat_lstR hx) hy
theorem Rv.ixTD {ds : List PyData} {d : PyData} {i : Int} (z : atI ds i = some d) : Rv (rIxT K) B (dat K (.tuple ds)) (dat K (.int i)) (dat K d) := fun x y B1 H s1 s2 hx hy => Rv.ixT (K := K) (atI_map (dat K) z) x y B1 H s1 s2 (dat_tupR hx) hy
/-- tuple + tuple -/
theorem Rv.catT {xs ys : List PyData} (hz : xs.length + ys.length ≤ sizeLine) : Rv (rCatA K) B (dat K (.tuple xs)) (dat K (.tuple ys)) (dat K (.tuple (xs ++ ys))) := fun x y B1 H _ s2 hx hy Q q => by
  have hx' := hx
  have hy' := hy
  obtain ⟨a, us, rfl, h, g⟩ := dat_tupR hx
  obtain ⟨b, ws, rfl, h', g'⟩ := dat_tupR hy
  have l1 := allR_len g
  have l2 := allR_len g'
  rw [List.length_map] at l1 l2
  refine ⟨a, b, us, ws, rfl, rfl, seqT s2 h, seqT s2 h', by omega, fun e => ?_, fun _ e => ?_, fun _ _ p hp => ?_⟩
  · have : xs = [] := List.eq_nil_of_length_eq_zero (by rw [← l1, e]; rfl)
    subst this
    exact q _ B1 H (.refl s2) hy'
  · have : ys = [] := List.eq_nil_of_length_eq_zero (by rw [← l2, e]; rfl)
    subst this
    rw [List.append_nil] at q
    exact q _ B1 H (.refl s2) hx'
  · refine q _ (upd B1 p (.tup (us ++ ws))) _ (Ext.new s2 hp) ?_
    have s := new_same (o := .tup (us ++ ws)) (s2.free hp)
    exact .tup (SqT.of upd_same) (dpMonoAll s _ _ (allR_dp (by rw [List.map_append]; exact allR_app g g')))
end
end Wv

set_option Elab.async false
set_option linter.all false
set_option maxRecDepth 100000
set_option maxHeartbeats 4000000
/-! Ws0: sorted(xs), xs a list of data that are alike, empty tuples among them too. -/
namespace PySem.W
open PySem PySem.Calls PyProof.Rows PySem.SeqAt
section
variable {prog : Program} {w : World} {A : Around} {E : Value → Shared → Prop} {s : Shared}
theorem oneLt_tup {f : Bool} {xs ys : List PyData} {a b : Value} {as bs : List Addr} {Q : Bool → Shared → Prop} (ra : Reads s.heap a (.tuple xs) as) (rb : Reads s.heap b (.tuple ys) bs) (h : alike (.tuple xs) (.tuple ys) = true)
    (hu : A.units + min (PyData.tuple xs).depth (PyData.tuple ys).depth < cLine) (hq : Q (dataLt (.tuple xs) (.tuple ys)) s) : wpAny (model prog w) A (oneLt' f a b) Q E s := by
  cases f with
  | false => exact oneLt_alike (fun z => nomatch z) ra rb h (fun z => nomatch z) hu hq
  | true =>
    have hal : alikeAll xs ys = true := by simpa [alike] using h
    cases ra with
    | @tuple l o vs n _ as₁ h1 h2 h3 h4 =>
      cases rb with
      | @tuple l' o' vs' n' _ bs₁ k1 k2 k3 k4 =>
        have n1 : vs.size = xs.length := by simpa using ReadsAll.length _ _ _ h4
        have n2 : vs'.size = ys.length := by simpa using ReadsAll.length _ _ _ k4
        rw [dataLt_tuple, ← firstLt_toks xs ys hal, ← n1, ← n2] at hq
        rw [oneLt'_eq]
        simp only [if_true]
        refine wpAny_bind (wpAny_cRoomFor (room_here hu) ?_)
        obtain ⟨cls, dd, data, sl⟩ := o
        obtain ⟨cls2, dd2, data2, sl2⟩ := o'
        simp only at h2 h3 k2 k3
        subst h2 h3 k2 k3
        refine wpAny_bind (wpAny_callSpecialIfBound?_slot (T := "tuple") ⟨_, h1, rfl⟩ F.slot_tuple_lt (call_meets F.slot_tuple_lt ⟨_, h1, rfl⟩ F.entry_tuple_lt (F.args_tuple_lt_2 _ _)
          (tuple_ltAt l l' vs vs' n n' dd dd2 sl sl2 (pairEq xs ys) (fun j => dataLt (xs.getD j .none) (ys.getD j .none))) ⟨h1, k1, fun j j1 j2 => ?_, fun j j1 j2 hj => ?_, ?_⟩))
        · have := eqAt_alikeAll xs ys A.in1 s vs.toList vs'.toList _ _ h4 k4 hal (room_in hu) j (by simpa using j1) (by simpa using j2)
          simpa using this
        · have := rcLt_alikeAll xs ys A.in1 s vs.toList vs'.toList _ _ h4 k4 hal (room_in hu) j (by simpa using j1) (by simpa using j2) hj
          simpa using this
        · exact wpAny_truthy_bool hq
def full : PyData → Bool
  | .tuple (_ :: _) => true
  | _ => false
/-- the first items of tuples, empty ones among them -/
theorem firsts_mix : ∀ (vs : List Value) (ds : List PyData) {Q : List (Option Value) → Shared → Prop}, EachIs (fun v d => ∃ as, Reads s.heap v d as) vs ds → (∀ d, d ∈ ds → ∃ xs, d = .tuple xs) →
    (∀ fs : List (Option Value), fs.map (·.isSome) = ds.map full → Q fs s) → wpAny (model prog w) A (vs.mapM firstOfTuple') Q E s
  | _, _, _, .nil, _, h => by
    rw [List.mapM_nil]
    exact wpAny_pure (h [] rfl)
  | _, _, Q, .cons (b := d) (as := vs) (bs := ds) ⟨as, r⟩ t, ht, h => by
    obtain ⟨xs, rfl⟩ := ht d List.mem_cons_self
    cases r with
    | @tuple a o us n _ _ ho hc hd hr =>
      rw [List.mapM_cons]
      refine wpAny_bind ?_
      rw [kas_first_eq]
      refine wpAny_bind (Looks.here (show Looks (model prog w) s.heap (typeOf (.ref a)) o.cls from (Looks.ld ho).andThen .now) ?_)
      rw [hc, if_neg (by first | decide | simp)]
      refine wpAny_bind (listItems_at ho hd (wpAny_pure ?_))
      have e : (us[0]?).isSome = full (.tuple xs) := by
        have n1 : us.size = xs.length := by simpa using ReadsAll.length _ _ _ hr
        cases xs with
        | nil =>
          have : us[0]? = none := by
            rw [Array.getElem?_eq_none_iff, n1]
            exact Nat.le_refl _
          rw [this]
          rfl
        | cons x r =>
          have : 0 < us.size := by rw [n1]; simp
          rw [Array.getElem?_eq_getElem this]
          rfl
      exact wpAny_bind (firsts_mix vs ds (Q := fun bs s' => wpAny (model prog w) A (pure (us[0]? :: bs)) Q E s') t (fun d hd => ht d (List.mem_cons_of_mem _ hd)) fun fs hf => wpAny_pure (h _ (by rw [List.map_cons, List.map_cons, hf, e])))
/-- tuples that are alike can be sorted -/
theorem SortsAt.tups {vs : List Value} {ds : List PyData} (e : EachIs (fun v d => ∃ as, Reads s.heap v d as) vs ds) (hal : AllAlike ds) (ht : ∀ d, d ∈ ds → ∃ xs, d = .tuple xs) (hu : ∀ d, d ∈ ds → A.units + d.depth < cLine) : SortsAt prog w A s (dataKind s.heap ds) vs := by
  by_cases hf : ∀ d, d ∈ ds → full d = true
  · refine SortsAt.data e hal (.inl fun d hd => ?_) hu
    obtain ⟨xs, rfl⟩ := ht d hd
    have := hf _ hd
    cases xs with
    | nil => cases this
    | cons x r => exact ⟨x, r, rfl⟩
  have lt : ∀ kd : SortKind, (∀ x y, keyLt' kd x y = oneLt' true x y) ∨ (∀ x y, keyLt' kd x y = oneLt' false x y) → H.LtAt prog w A s (dataKind s.heap ds) kd := by
    intro kd hk E x y a b Q ha hb hq
    obtain ⟨d, as, hd, ra, rfl⟩ := dataKind_inv ha
    obtain ⟨d', as', hd', rb, rfl⟩ := dataKind_inv hb
    obtain ⟨xs, rfl⟩ := ht d hd
    obtain ⟨ys, rfl⟩ := ht d' hd'
    have room : A.units + min (PyData.tuple xs).depth (PyData.tuple ys).depth < cLine := Nat.lt_of_le_of_lt (Nat.add_le_add_left (Nat.min_le_left _ _) _) (hu _ hd)
    rcases hk with hk | hk
    · rw [hk]
      exact oneLt_tup ra rb (hal _ hd _ hd') room hq
    · rw [hk]
      exact oneLt_tup ra rb (hal _ hd _ hd') room hq
  have hkeys : ∀ v, v ∈ vs → ∃ a, (dataKind s.heap ds).keyOf v = some a := fun v hv => by
    obtain ⟨d, hd, as, r⟩ := e.left v hv
    exact ⟨_, dataKind_some hal hd r⟩
  cases ds with
  | nil => exact absurd (fun d hd => nomatch hd) hf
  | cons d₀ ds₀ =>
    have many : ∀ fs : List (Option Value), fs.map (·.isSome) = (d₀ :: ds₀).map full → fs.toArray.all (·.isSome) = false := by
      intro fs hfs
      rw [Bool.eq_false_iff]
      intro q
      refine hf fun d hd => ?_
      rw [List.all_toArray, List.all_eq_true] at q
      have m : full d ∈ fs.map (·.isSome) := by
        rw [hfs]
        exact List.mem_map.mpr ⟨d, hd, rfl⟩
      obtain ⟨o, ho, eo⟩ := List.mem_map.mp m
      rw [← eo]
      exact q o ho
    have first : ∀ fs : List (Option Value), fs.map (·.isSome) = (d₀ :: ds₀).map full → ((fs.toArray[0]?).bind id).isSome = full d₀ := by
      intro fs hfs
      cases fs with
      | nil => cases hfs
      | cons o r =>
        rw [List.map_cons, List.map_cons] at hfs
        have := (List.cons.inj hfs).1
        simpa using this
    cases hd0 : full d₀ with
    | true =>
      refine ⟨hkeys, general', lt _ (.inr fun _ _ => rfl), fun _ E Q hq => ?_⟩
      rw [keyKind'_eq, List.mapM_toArray, map_eq_pure_bind]
      refine wpAny_bind (wpAny_bind (firsts_mix vs _ e ht fun fs hfs => wpAny_pure ?_))
      rw [if_neg (by rw [many fs hfs]; decide), if_pos (by rw [first fs hfs, hd0])]
      exact wpAny_pure hq
    | false =>
      refine ⟨hkeys, oneType', lt _ (.inl fun _ _ => rfl), fun _ E Q hq => ?_⟩
      rw [keyKind'_eq, List.mapM_toArray, map_eq_pure_bind]
      refine wpAny_bind (wpAny_bind (firsts_mix vs _ e ht fun fs hfs => wpAny_pure ?_))
      rw [if_neg (by rw [many fs hfs]; decide), if_neg (by rw [first fs hfs, hd0]; decide)]
      rw [oneTypeOnly'_eq, List.mapM_toArray, map_eq_pure_bind]
      have tys : ∀ v ∈ vs, ∀ Q' : Value → Shared → Prop, Q' (.type "tuple") s → wpAny (model prog w) A (typeOf v) Q' E s := fun v hv Q' hq' => by
        obtain ⟨d, hd, as, r⟩ := e.left v hv
        obtain ⟨xs, rfl⟩ := ht d hd
        exact (looks_reads r).here hq'
      refine wpAny_bind (wpAny_bind (wpAny_bind (kas_mapM (r := Value.type "tuple") _ (fun v hv Q' hq' => tys v hv Q' hq') (wpAny_pure ?_))))
      cases e with
      | cons h1 t =>
        rename_i v0 vr _
        have h0 : (List.map (fun _ => Value.type "tuple") (v0 :: vr)).toArray[0]? = some (Value.type "tuple") := by simp
        rw [h0]
        have h3 : ((List.map (fun _ => Value.type "tuple") (v0 :: vr)).toArray.all fun x => x == Value.type "tuple") = true := by
          simp only [List.all_toArray, List.all_map, List.all_eq_true]
          intro _ _
          exact beq_self_eq_true _
        dsimp only
        rw [if_pos h3]
        exact wpAny_pure (wpAny_pure hq)
/-- what can be sorted: tuples, or neither tuples nor None -/
def SortOk (ds : List PyData) : Prop := (∀ d, d ∈ ds → ∃ xs, d = .tuple xs) ∨ ∀ d, d ∈ ds → d ≠ .none ∧ ∀ xs, d ≠ .tuple xs
theorem SortsAt.ok {vs : List Value} {ds : List PyData} (e : EachIs (fun v d => ∃ as, Reads s.heap v d as) vs ds) (hal : AllAlike ds) (hk : SortOk ds) (hu : ∀ d, d ∈ ds → A.units + d.depth < cLine) : SortsAt prog w A s (dataKind s.heap ds) vs := by
  rcases hk with h | h
  · exact SortsAt.tups e hal h hu
  · exact SortsAt.data e hal (.inr h) hu
theorem sorted_ok {l : Addr} {β : Type} {vs : List Value} {bs : List β} {enc : β → PyData} {R : Value → β → Prop} {Q : Value → Shared → Prop} (hl : s.heap.IsList l vs.toArray) (e : EachIs R vs bs) (er : EachIs (fun v b => ∃ as, Reads s.heap v (enc b) as) vs bs)
    (hal : AllAlike (bs.map enc)) (hk : SortOk (bs.map enc)) (hL : bs.length ≤ sizeLine)
    (hu : ∀ b, b ∈ bs → A.units + 2 + (enc b).depth < cLine) (h : ∀ out, out.length = bs.length → EachIs R out (bs.mergeSort (dataLe false enc)) → Q (.ref (s.heap.objs.size + 1)) { s with heap := sortedAll s.heap vs (List.toArray out) }) :
    wpAny (model prog w) A (call (.builtin "sorted") [.ref l]) Q E s := by
  have er' : EachIs (fun v b => ∃ as, Reads (sortingHeap (copyHeap s.heap vs) (s.heap.objs.size + 1) vs) v (enc b) as) vs bs := er.mono fun _ _ ⟨as, r⟩ => ⟨as, PyProof.Rows.Reads.keeps (fun _ _ => sorting_copy_old) r⟩
  exact sorted_vals hl (SortsAt.ok (s := { s with heap := sortingHeap (copyHeap s.heap vs) (s.heap.objs.size + 1) vs }) (each_map (R := fun v d => ∃ as, Reads (sortingHeap (copyHeap s.heap vs) (s.heap.objs.size + 1) vs) v d as) enc er') hal hk (bound_map hu)) (by rw [e.length]; exact hL)
    (h _ (by rw [sortVals_length false rfl]; exact e.length) (sortVals_data false e er' hal))
end
end PySem.W
namespace Wb
open PySem PySem.Spec PyProof.Rows L2
/-- the order of data -/
def dle (x y : PyData) : Bool := PySem.W.dataLe false (fun d : PyData => d) x y
def sortD (ds : List PyData) : List PyData := ds.mergeSort dle
/-- the values in that order -/
def sortV (xs : List V) (ds : List PyData) : List V := ((xs.zip ds).mergeSort fun a b => dle a.2 b.2).map Prod.fst
/-- sorted(xs) of a list of data -/
def rSortedD (K : PySem.W.Frag) : List V → Hp → VK → Prop := fun vs H Q => ∃ (a : Addr) (xs : List V) (ds : List PyData), vs = [.ref a] ∧ SqL K H a xs ∧ DpAll K H xs ds ∧ PySem.W.AllAlike ds ∧ PySem.W.SortOk ds ∧ (∀ d ∈ ds, d.depth ≤ 60) ∧
  ∀ p, H p = none → Q (.ref p) (upd H p (.lst (sortV xs ds)))
theorem dpAll_pairs {K : PySem.W.Frag} {H : Hp} : ∀ {l : List (V × PyData)}, (∀ p ∈ l, Dp K H p.1 p.2) → DpAll K H (l.map Prod.fst) (l.map Prod.snd)
  | [], _ => .nil
  | p :: l, h => .cons (h p List.mem_cons_self) (dpAll_pairs fun q hq => h q (List.mem_cons_of_mem _ hq))
theorem pairs_dpAll {K : PySem.W.Frag} {H : Hp} : ∀ {xs : List V} {ds : List PyData}, DpAll K H xs ds → ∀ p ∈ xs.zip ds, Dp K H p.1 p.2
  | _, _, .nil => fun p h => nomatch h
  | _, _, .cons h t => fun p hp => by
    rcases List.mem_cons.mp hp with e | hp
    · rw [e]
      exact h
    · exact pairs_dpAll t p hp
theorem each_pairs {X : Cx} {pins : List (Addr × Obj)} {σ : L2.St} {H : Hp} {s : Shared} (I : Inv X pins σ H s) : ∀ {xs : List V} {its : List Value} {ds : List PyData}, Vals xs its → DpAll X.K H xs ds →
    PySem.W.EachIs (fun (v : Value) (b : V × PyData) => RelV b.1 v ∧ Dp X.K H b.1 b.2) its (xs.zip ds)
  | _, _, _, .nil, .nil => .nil
  | _, _, _, .cons r t, .cons h g => .cons ⟨r, h⟩ (each_pairs I t g)
theorem pairs_out {K : PySem.W.Frag} {H : Hp} : ∀ {out : List Value} {bs : List (V × PyData)}, PySem.W.EachIs (fun (v : Value) (b : V × PyData) => RelV b.1 v ∧ Dp K H b.1 b.2) out bs → Vals (bs.map Prod.fst) out ∧ DpAll K H (bs.map Prod.fst) (bs.map Prod.snd)
  | _, _, .nil => ⟨.nil, .nil⟩
  | _, _, .cons h t => by
    obtain ⟨a, b⟩ := pairs_out t
    exact ⟨.cons h.1 a, .cons h.2 b⟩
theorem zip_snd : ∀ {xs : List V} {ds : List PyData}, xs.length = ds.length → (xs.zip ds).map Prod.snd = ds
  | [], [], _ => rfl
  | x :: xs, d :: ds, h => by
    rw [List.zip_cons_cons, List.map_cons, zip_snd (by simpa using h)]
theorem dp_sort {K : PySem.W.Frag} {H : Hp} {xs : List V} {ds : List PyData} (h : DpAll K H xs ds) : DpAll K H (sortV xs ds) (sortD ds) := by
  have e : ((xs.zip ds).mergeSort fun a b => dle a.2 b.2).map Prod.snd = sortD ds := by
    unfold sortD
    rw [List.map_mergeSort (s := dle) (f := Prod.snd) (fun a _ b _ => rfl), zip_snd (dpAll_len h)]
  rw [← e]
  exact dpAll_pairs fun p hp => pairs_dpAll h p ((List.mergeSort_perm _ _).mem_iff.mp hp)
section
variable {X : Cx}
theorem cr_sortedD (hu : X.A.units + 64 < cLine) : CallR X (.builtin "sorted") (rSortedD X.K) := by
  intro pins s σ H vs us Q I r h
  obtain ⟨a, xs, ds, rfl, hs, hd, hal, hk, hdep, q⟩ := h
  obtain ⟨its, rv, hl, hz⟩ := I.list hs
  obtain ⟨u, rfl, ru⟩ := vals1 r
  obtain rfl : u = Value.ref a := ru
  have len : xs.length = ds.length := dpAll_len hd
  have em : (xs.zip ds).map Prod.snd = ds := zip_snd len
  have e := each_pairs I rv hd
  have er : PySem.W.EachIs (fun (v : Value) (b : V × PyData) => ∃ as, Reads s.heap v b.2 as) its (xs.zip ds) := e.mono fun v b h => Dp.reads I b.2 b.1 v h.2 h.1
  refine PySem.W.sorted_ok (enc := Prod.snd) hl.isList e er (by rw [em]; exact hal) (by rw [em]; exact hk) (by rw [List.length_zip]; omega) (fun b hb => ?_) fun out ho eo => ?_
  · have := hdep b.2 (List.of_mem_zip hb).2
    omega
  · obtain ⟨o1, o2⟩ := pairs_out eo
    obtain ⟨c, hc⟩ := PyProof.Rows.sortedAll_at s.heap its out.toArray
    have ln : (((xs.zip ds).mergeSort (PySem.W.dataLe false Prod.snd)).map Prod.fst).length ≤ sizeLine := by
      rw [List.length_map, List.length_mergeSort, List.length_zip]
      omega
    exact ⟨.ref (s.heap.objs.size + 1), upd H (s.heap.objs.size + 1) (.lst (((xs.zip ds).mergeSort (PySem.W.dataLe false Prod.snd)).map Prod.fst)), I.laid (t' := s.toks) (fun _ _ => PyProof.Rows.sortedAll_old) (Nat.le_succ _) ⟨ln, out, c, o1, hc⟩, rfl, q _ (I.hok.fresh (Nat.le_succ _))⟩
end
end Wb

set_option Elab.async false
set_option linter.all false
set_option maxRecDepth 100000
set_option maxHeartbeats 4000000
/-! Wv1: what is walked, loops, comprehensions, built-in functions, objects that never change. -/
namespace Wv
open PySem PySem.Spec PyProof.Rows L2 Wb

/-! ### more rules of the language -/
section
variable {X : Cx}
/-- list + list -/
def rCatS (K : PySem.W.Frag) : R2 := fun x y H Q => ∃ l b xs zs, x = .ref l ∧ y = .ref b ∧ SqL K H l xs ∧ SqL K H b zs ∧ xs.length + zs.length ≤ sizeLine ∧ ∀ p, H p = none → Q (.ref p) (upd H p (.lst (xs ++ zs)))
theorem op_catS : OpR X (binaryOp .Add) (rCatS X.K) := by
  intro pins s σ H x y v u Q I rx ry h
  obtain ⟨l, b, xs, zs, rfl, rfl, hl, hb, hz, q⟩ := h
  cases rx
  cases ry
  obtain ⟨its, r, ⟨⟨c1, d1, t1, sl1⟩, n, e, hc, hd, ht⟩, z1⟩ := I.list hl
  obtain ⟨its2, r2, ⟨⟨c2, d2, t2, sl2⟩, n2, e2, hc2, hd2, ht2⟩, z2⟩ := I.list hb
  simp only at hc hd ht hc2 hd2 ht2
  subst hc hd ht hc2 hd2 ht2
  have hlen := r.length
  have hlen2 := r2.length
  refine concat_meets ⟨_, e, rfl⟩ ⟨_, e2, rfl⟩ noFill_list_add seq_list_add PySem.F.slot_list_add PySem.F.entry_list_add (PySem.F.args_list_add_2 _ _) (list_addW l b its.toArray its2.toArray n n2 none none sl1 sl2 (by rw [List.size_toArray, List.size_toArray]; omega)) ⟨e, e2, ?_⟩
  have ea : its.toArray ++ its2.toArray = (its ++ its2).toArray := by simp
  rw [ea]
  exact ⟨.ref _, _, I.lnew (t' := s.toks) (r.append r2) (by rw [List.length_append]; omega), rfl, q _ I.fresh⟩
/-- x in t, a tuple of data -/
def rInT (K : PySem.W.Frag) (neg : Bool) : R2 := fun x y H Q => ∃ d ds, Dp K H x d ∧ Dp K H y (.tuple ds) ∧ SeqAt.shaped d = true ∧ SeqAt.shaped (.tuple ds) = true ∧ Q (.bl (if neg = true then !ds.any fun z => PyData.eqv z d else ds.any fun z => PyData.eqv z d)) H
theorem room_in_shaped' {ds : List PyData} {d : PyData} {u : Nat} (sd : SeqAt.shaped d = true) (hu : u + 65 < cLine) : u + 1 + min (PyData.depthAll ds) d.depth < cLine := by
  have h : d.depth ≤ 64 := by
    unfold SeqAt.shaped at sd
    rw [Bool.and_eq_true] at sd
    exact of_decide_eq_true sd.2
  omega
theorem canLay_tup {ds : List PyData} (h : SeqAt.shaped (.tuple ds) = true) : PyData.canLayAll0 ds = true := by
  unfold SeqAt.shaped at h
  rw [Bool.and_eq_true] at h
  simpa only [PyData.canLay0] using h.1
theorem op_inT (hu : X.A.units + 65 < cLine) : OpR X (compareOp .In) (rInT X.K false) := by
  intro pins s σ H x y v u Q I rx ry h
  obtain ⟨d, ds, hd, he, sd, se, q⟩ := h
  obtain ⟨as, r1⟩ := Dp.reads I d x v hd rx
  obtain ⟨bs, r2⟩ := Dp.reads I (.tuple ds) y u he ry
  exact SeqAt.in_tuple_reads r2 r1 (canLay_tup se) (SeqAt.canLay_of_shaped sd) (room_in_shaped' sd hu) ⟨.bl _, H, I, rfl, q⟩
theorem op_notInT (hu : X.A.units + 65 < cLine) : OpR X (compareOp .NotIn) (rInT X.K true) := by
  intro pins s σ H x y v u Q I rx ry h
  obtain ⟨d, ds, hd, he, sd, se, q⟩ := h
  obtain ⟨as, r1⟩ := Dp.reads I d x v hd rx
  obtain ⟨bs, r2⟩ := Dp.reads I (.tuple ds) y u he ry
  exact SeqAt.notIn_tuple_reads r2 r1 (canLay_tup se) (SeqAt.canLay_of_shaped sd) (room_in_shaped' sd hu) ⟨.bl _, H, I, rfl, q⟩
theorem fold_rep (b : Array Nat) : ∀ (k : Nat) (a : Array Nat), (List.foldl (· ++ ·) a (List.replicate k b)).toList = a.toList ++ (List.replicate k b.toList).flatten
  | 0, a => by simp
  | k + 1, a => by
    rw [List.replicate_succ, List.foldl_cons, fold_rep b k (a ++ b), List.replicate_succ, List.flatten_cons, Array.toList_append, List.append_assoc]
/-- a text some times -/
def mulS (z : Str) (n : Nat) : Str := ⟨((List.replicate n z.cps.toList).flatten).toArray⟩
theorem mulS_eq (z : Str) (n : Nat) : (⟨List.foldl (· ++ ·) #[] (List.replicate n z.cps)⟩ : Str) = mulS z n := by
  unfold mulS
  congr 1
  apply Array.toList_inj.mp
  rw [fold_rep]
  simp
theorem mulS_len (z : Str) (n : Nat) : (mulS z n).length = n * z.length := by
  unfold mulS Str.length
  simp
def rMulS : R2 := fun x y H Q => ∃ (z : Str) (n : Int), x = .str z ∧ y = .int n ∧ 2 ≤ n ∧ n ≤ 1000 ∧ 0 < z.length ∧ z.length ≤ 1000 ∧ Q (.str (mulS z n.toNat)) H
theorem op_mulS : OpR X (binaryOp .Mult) rMulS := by
  intro pins s σ H x y v u Q I rx ry h
  obtain ⟨z, n, rfl, rfl, n2, n3, z0, z1, q⟩ := h
  obtain ⟨t, rfl⟩ := rx
  obtain ⟨t', rfl⟩ := ry
  have h1 : ¬ n < 1 := by omega
  have h2 : (n == 1 || z.length == 0) = false := by
    simp only [Bool.or_eq_false_iff, beq_eq_false_iff_ne]
    constructor <;> omega
  have len : z.length * n.toNat ≤ 1000 * 1000 := Nat.mul_le_mul z1 (by omega)
  refine PySem.P.mul_str (by simp only [Bool.or_eq_false_iff, decide_eq_false_iff_not]; constructor <;> omega) (fun _ _ => ?_) (fun _ _ => ?_) ?_
  · have : (2 ^ 63 - 1 : Int) / n ≥ 1000 := by
      refine (Int.le_ediv_iff_mul_le (by omega)).mpr ?_
      have : (1000 : Int) * n ≤ 1000 * 1000 := by omega
      omega
    omega
  · have : sizeLine = 16777216 := sizeLine_eq
    have : ¬ z.length * n.toNat > sizeLine := by omega
    exact decide_eq_false this
  · rw [if_neg h1, h2, if_neg (by decide)]
    rw [mulS_eq]
    refine ⟨?_, ⟨.str _, H, I.tok _, ⟨_, rfl⟩, q⟩⟩
    rw [mulS_len, sizeLine_eq, Nat.mul_comm]
    omega
end

/-! ### what is walked -/
section
variable {K : PySem.W.Frag} {σ : L2.St} {B B' : Hp} {ta tb te tl : TE} {tt tu : TT} {R S T U : Rel} {Rs : List Rel} {x v : V}
/-- an iterator that gives such items, while a base stands -/
def Wk (J : It) (B1 : Hp) (Rs : List Rel) : Prop := Walk J Rs.length (fun H => Same B1 H) (fun i H x H' => ∃ R, Rs[i]? = some R ∧ ∀ Bc, Same B1 Bc → Same Bc H → ∃ Bn, Ext Bc H Bn H' ∧ R Bn x)
def Di (wi : TI) (σ : L2.St) (B : Hp) (Rs : List Rel) : Prop := ∀ B1 H, Same B B1 → Same B1 H → ∀ Q : It → Hp → Prop, (∀ J B' H', Ext B1 H B' H' → Wk J B' Rs → Q J H') → wi σ H Q
theorem Di.mono {wi : TI} (s : Same B B') (h : Di wi σ B Rs) : Di wi σ B' Rs := fun B1 H s1 s2 => h B1 H (s.trans s1) s2
theorem Di.list [m : MoA Rs] (h : De tl σ B (lstR K Rs)) : Di (iList K tl) σ B Rs := fun B1 H s1 s2 Q q => h B1 H s1 s2 _ fun v B2 H2 e hv => by
  obtain ⟨a, xs, rfl, hs, hR⟩ := hv
  refine ⟨a, rfl, ⟨xs, e.bh.seq hs⟩, q _ B2 H2 e ?_⟩
  have len := allR_len hR
  unfold Wk
  rw [← len]
  refine (walk_list (K := K) (a := a) (xs := xs)).mono (fun H' s => s.seq hs) fun i H' x H'' hi s y => ?_
  obtain ⟨rfl, hx⟩ := y
  obtain ⟨R, hR1, hR2⟩ := allR_at hR hx
  exact ⟨R, hR1, fun Bc sc sh => ⟨Bc, .refl sh, by
    obtain ⟨v', hv', hR3⟩ := allR_of (m.mo sc hR) hR1
    rw [hx] at hv'
    cases hv'
    exact hR3⟩⟩
theorem Di.tup [m : MoA Rs] (h : De tl σ B (tupR K Rs)) : Di (iTup K tl) σ B Rs := fun B1 H s1 s2 Q q => h B1 H s1 s2 _ fun v B2 H2 e hv => by
  obtain ⟨a, xs, rfl, hs, hR⟩ := hv
  refine ⟨a, rfl, ⟨xs, seqT e.bh hs⟩, q _ B2 H2 e ?_⟩
  have len := allR_len hR
  unfold Wk
  rw [← len]
  refine (walk_tup (K := K) (a := a) (xs := xs)).mono (fun H' s => seqT s hs) fun i H' x H'' hi s y => ?_
  obtain ⟨rfl, hx⟩ := y
  obtain ⟨R, hR1, hR2⟩ := allR_at hR hx
  exact ⟨R, hR1, fun Bc sc sh => ⟨Bc, .refl sh, by
    obtain ⟨v', hv', hR3⟩ := allR_of (m.mo sc hR) hR1
    rw [hx] at hv'
    cases hv'
    exact hR3⟩⟩
theorem Di.listD {ds : List PyData} (h : De tl σ B (dat K (.list ds))) : Di (iList K tl) σ B (ds.map (dat K)) := .list (h.conv fun _ _ => dat_lstR)
theorem Di.tupD {ds : List PyData} (h : De tl σ B (dat K (.tuple ds))) : Di (iTup K tl) σ B (ds.map (dat K)) := .tup (h.conv fun _ _ => dat_tupR)
def intsR (K : PySem.W.Frag) (lo : Int) (n : Nat) : List Rel := (List.range n).map fun i : Nat => dat K (.int (lo + (i : Int)))
theorem wk_ints {lo : Int} {n : Nat} : Wk (Itr lo n) B (intsR K lo n) := by
  unfold Wk intsR
  rw [List.length_map, List.length_range]
  refine (walk_range (lo := lo) (n := n)).mono (fun _ _ => trivial) fun i H' x H'' hi s y => ?_
  obtain ⟨rfl, rfl⟩ := y
  refine ⟨dat K (.int (lo + (i : Int))), by rw [List.getElem?_map, List.getElem?_range hi]; rfl, fun Bc sc sh => ⟨Bc, .refl sh, Dp.int _⟩⟩
theorem Di.rng1 {ta : TA} {n : Int} (h : Da ta σ B [dat K (.int n)]) (h0 : -(2 ^ 62) ≤ n) (h1 : n < 2 ^ 62) : Di (iRng1 ta) σ B (intsR K 0 n.toNat) := fun B1 H s1 s2 Q q => h B1 H s1 s2 _ fun vs B2 H2 e hv => by
  obtain ⟨v, r, rfl, h2, h3⟩ := hv
  have h3 : r = [] := h3
  subst h3
  have h2 := dat_int h2
  subst h2
  exact ⟨n, rfl, h0, h1, q _ B2 H2 e wk_ints⟩
theorem Di.rng2 {ta : TA} {lo n : Int} (h : Da ta σ B [dat K (.int lo), dat K (.int n)]) (h0 : -(2 ^ 62) ≤ lo ∧ lo < 2 ^ 62 ∧ -(2 ^ 62) ≤ n ∧ n < 2 ^ 62) : Di (iRng2 ta) σ B (intsR K lo (n - lo).toNat) := fun B1 H s1 s2 Q q => h B1 H s1 s2 _ fun vs B2 H2 e hv => by
  obtain ⟨v, r, rfl, h2, v', r', rfl, h4, h5⟩ := hv
  have h5 : r' = [] := h5
  subst h5
  have h2 := dat_int h2
  subst h2
  have h4 := dat_int h4
  subst h4
  exact ⟨lo, n, rfl, h0, q _ B2 H2 e wk_ints⟩
theorem Di.str {z : Str} (h : De tl σ B (dat K (.str z))) : Di (iStr tl) σ B (z.cps.toList.map fun c => dat K (.str ⟨#[c]⟩)) := fun B1 H s1 s2 Q q => h B1 H s1 s2 _ fun v B2 H2 e hv => by
  have hv := dat_str hv
  subst hv
  refine ⟨z, rfl, q _ B2 H2 e ?_⟩
  unfold Wk
  have len : (z.cps.toList.map fun c => dat K (.str ⟨#[c]⟩)).length = z.cps.size := by simp
  rw [len]
  refine (walk_str (z := z)).mono (fun _ _ => trivial) fun i H' x H'' hi s y => ?_
  obtain ⟨rfl, c, hc, rfl⟩ := y
  refine ⟨dat K (.str ⟨#[c]⟩), ?_, fun Bc sc sh => ⟨Bc, .refl sh, Dp.str _⟩⟩
  rw [List.getElem?_map, Array.getElem?_toList, hc]
  rfl
/-- a new pair -/
theorem pair_new {R S : Rel} [m1 : Mo R] [m2 : Mo S] {Bc H : Hp} {p : Addr} {x y : V} (sh : Same Bc H) (hp : H p = none) (hx : R Bc x) (hy : S Bc y) : ∃ Bn, Ext Bc H Bn (upd H p (.tup [x, y])) ∧ tupR K [R, S] Bn (.ref p) :=
  ⟨upd Bc p (.tup [x, y]), .new sh hp, p, _, rfl, SqT.of upd_same, x, [y], rfl, m1.mo (new_same (sh.free hp)) hx, y, [], rfl, m2.mo (new_same (sh.free hp)) hy, rfl⟩
theorem Di.zip {ta : TA} {Ss : List Rel} [m : MoA Rs] [m' : MoA Ss] (hm : ∀ R ∈ Rs, Mo R) (hm' : ∀ R ∈ Ss, Mo R) (h : Da ta σ B [lstR K Rs, lstR K Ss]) : Di (iZip K ta) σ B ((Rs.zip Ss).map fun p => tupR K [p.1, p.2]) := fun B1 H s1 s2 Q q => h B1 H s1 s2 _ fun vs B2 H2 e hv => by
  obtain ⟨v, r, rfl, ⟨a, xs, rfl, hs, hR⟩, v', r', rfl, ⟨b, ys, rfl, hs', hR'⟩, h5⟩ := hv
  have h5 : r' = [] := h5
  subst h5
  refine ⟨a, b, xs, ys, rfl, e.bh.seq hs, e.bh.seq hs', q _ B2 H2 e ?_⟩
  have len := allR_len hR
  have len' := allR_len hR'
  unfold Wk
  rw [List.length_map]
  refine (walk_zip (K := K) (a := a) (b := b) (xs := xs) (ys := ys) (n := (Rs.zip Ss).length) (by rw [List.length_zip, len, len'])).mono (fun H' s => ⟨s.seq hs, s.seq hs'⟩) fun i H' x H'' hi s y => ?_
  obtain ⟨p, u, w, rfl, hp, rfl, hu, hw⟩ := y
  have hu : xs[i]? = some u := hu
  have hw : ys[i]? = some w := hw
  obtain ⟨R, hR1, _⟩ := allR_at hR hu
  obtain ⟨S, hS1, _⟩ := allR_at hR' hw
  refine ⟨tupR K [R, S], ?_, fun Bc sc sh => ?_⟩
  · rw [List.getElem?_map, List.getElem?_zip_eq_some (z := (R, S)) |>.mpr ⟨hR1, hS1⟩]
    rfl
  · have := hm R (List.mem_of_getElem? hR1)
    have := hm' S (List.mem_of_getElem? hS1)
    obtain ⟨v1, hv1, q1⟩ := allR_of (m.mo sc hR) hR1
    obtain ⟨v2, hv2, q2⟩ := allR_of (m'.mo sc hR') hS1
    rw [hu] at hv1
    rw [hw] at hv2
    cases hv1
    cases hv2
    exact pair_new sh hp q1 q2
theorem Di.enum {ta : TA} [m : MoA Rs] (hm : ∀ R ∈ Rs, Mo R) (h : Da ta σ B [lstR K Rs]) : Di (iEnum K ta) σ B (Rs.zipIdx.map fun p => tupR K [dat K (.int (p.2 : Int)), p.1]) := fun B1 H s1 s2 Q q => h B1 H s1 s2 _ fun vs B2 H2 e hv => by
  obtain ⟨v, r, rfl, ⟨a, xs, rfl, hs, hR⟩, h5⟩ := hv
  have h5 : r = [] := h5
  subst h5
  refine ⟨a, xs, rfl, e.bh.seq hs, q _ B2 H2 e ?_⟩
  have len := allR_len hR
  unfold Wk
  rw [List.length_map, List.length_zipIdx, ← len]
  refine (walk_enum (K := K) (a := a) (xs := xs)).mono (fun H' s => s.seq hs) fun i H' x H'' hi s y => ?_
  obtain ⟨p, u, w, rfl, hp, rfl, hu, hw⟩ := y
  cases hu
  have hw : xs[i]? = some w := hw
  obtain ⟨R, hR1, _⟩ := allR_at hR hw
  refine ⟨tupR K [dat K (.int (i : Int)), R], ?_, fun Bc sc sh => ?_⟩
  · rw [List.getElem?_map, List.getElem?_zipIdx, hR1]
    simp
  · have := hm R (List.mem_of_getElem? hR1)
    obtain ⟨v1, hv1, q1⟩ := allR_of (m.mo sc hR) hR1
    rw [hw] at hv1
    cases hv1
    exact pair_new sh hp (Dp.int _) q1

/-! ### loops -/
/-- what is wanted behind a turn -/
def Nx (B1 : Hp) (P : L2.St → Hp → Hp → Prop) : L2.St → Hp → Prop := fun σ H => ∃ B', Same B1 B' ∧ Same B' H ∧ P σ B' H
theorem s_for {wi : TI} {g : TG} {ts : TS} {D : Ends} {H : Hp} (hi : Di wi σ B Rs) (hB : Same B H) (Pv : Nat → L2.St → Hp → Hp → Prop) (h0 : ∀ B' H', Ext B H B' H' → Pv 0 σ B' H')
    (hs : ∀ B1 i R v σ' Bc Hc Bn Hn, Same B B1 → Same B1 Bc → Rs[i]? = some R → Pv i σ' Bc Hc → Ext Bc Hc Bn Hn → R Bn v → g v σ' Hn fun σ2 H2 => ts { D with nx := Nx B1 (Pv (i + 1)), ct := Nx B1 (Pv (i + 1)), bk := D.nx } σ2 H2)
    (hd : ∀ σ' B' H', Same B B' → Same B' H' → Pv Rs.length σ' B' H' → D.nx σ' H') : tFor wi g ts D σ H :=
  hi B H (Same.refl _) hB _ fun J B1 H1 e hw => for_it hw (fun i σ' H' => Nx B1 (Pv i) σ' H') ⟨B1, Same.refl _, e.bh, h0 B1 H1 e⟩ (fun i σ' H' _ ⟨B', s1, s2, _⟩ => s1.trans s2)
    (fun i x σ' H' H'' hi ⟨Bc, s1, s2, p⟩ ⟨R, hR, y⟩ => by
      obtain ⟨Bn, e2, hx⟩ := y Bc s1 s2
      exact hs B1 i R x σ' Bc H' Bn H'' e.bb s1 hR p e2 hx)
    (fun σ' H' ⟨B', s1, s2, p⟩ => hd σ' B' H' (e.bb.trans s1) s2 p)

/-! ### comprehensions -/
theorem De.lc {α : Type} {as : List α} {r : α → Rel} {wi : TI} {g : TG} {vs : List Nat} (hi : Di wi σ B (as.map r)) (p : α → Bool) (o : α → Rel) [mo : ∀ a, Mo (o a)] (hz : as.length < sizeLine)
    (turn : ∀ a v Bn H, a ∈ as → Same B Bn → Same Bn H → r a Bn v → ∃ σ2, (∀ Q : L2.St → Hp → Prop, Q σ2 H → g v (wipe σ vs) H Q) ∧ wipe σ2 vs = wipe σ vs ∧ Dt tt σ2 Bn (p a) ∧ (p a = true → De te σ2 Bn (o a))) :
    De (tLc wi g tt te vs) σ B (lstR K ((as.filter p).map o)) := fun B1 H s1 s2 Q q => hi B1 H s1 s2 _ fun J B2 H2 e hw => fun D hD => by
  have moA : ∀ l : List α, MoA (l.map o) := fun l => moA_of fun R h => by
    obtain ⟨a, _, rfl⟩ := List.mem_map.mp h
    exact mo a
  have hw' : Walk J as.length (fun H => Same B2 H) (fun i H x H' => ∃ R, (as.map r)[i]? = some R ∧ ∀ Bc, Same B2 Bc → Same Bc H → ∃ Bn, Ext Bc H Bn H' ∧ R Bn x) := by
    have := hw
    unfold Wk at this
    rw [List.length_map] at this
    exact this
  refine lc_it hw' (fun i H' => ∃ B' xs, Ext B2 H2 B' H' ∧ B' D = none ∧ H' D = some (.lst xs) ∧ xs.length ≤ i ∧ AllR (((as.take i).filter p).map o) B' xs) ?_ (fun i H' _ ⟨B', xs, e', _⟩ => e'.bb.trans e'.bh) ?_ ?_
  · exact ⟨B2, [], .own e.bh hD, e.bh.free hD, upd_same, Nat.le_refl _, by rw [List.take_zero]; rfl⟩
  · rintro i x H' H'' hi' ⟨B', xs, e', nD, atD, few, hxs⟩ ⟨R, hR, y⟩
    obtain ⟨Bn, e2, hx⟩ := y B' e'.bb e'.bh
    rw [List.getElem?_map] at hR
    obtain ⟨a, ha, rfl⟩ := Option.map_eq_some_iff.mp hR
    obtain ⟨σ2, t1, t2, t3, t4⟩ := turn a x Bn H'' (List.mem_of_getElem? ha) (((s1.trans e.bb).trans e'.bb).trans e2.bb) e2.bh hx
    have atD2 := e2.hh _ _ atD
    have nD2 : Bn D = none := e2.nw D (by rw [atD]; exact fun z => nomatch z) nD
    have tk : as.take (i + 1) = as.take i ++ [a] := by rw [List.take_succ, ha]; rfl
    refine t1 _ ⟨t2, t3 Bn H'' (Same.refl _) e2.bh _ fun B3 H3 e3 => ?_⟩
    have atD3 := e3.hh _ _ atD2
    have nD3 : B3 D = none := e3.nw D (by rw [atD2]; exact fun z => nomatch z) nD2
    have e13 := (e'.trans e2).trans e3
    cases hp : p a with
    | true =>
      refine t4 hp B3 H3 e3.bb e3.bh _ fun y B4 H4 e4 hy => ?_
      have atD4 := e4.hh _ _ atD3
      have nD4 : B4 D = none := e4.nw D (by rw [atD3]; exact fun z => nomatch z) nD3
      have e14 := e13.trans e4
      refine ⟨xs, atD4, by omega, B4, xs ++ [y], ⟨fun b u hb => ?_, e14.bb, fun b u hb => ?_, e14.nw⟩, nD4, upd_same, by simp; omega, ?_⟩
      · rw [upd_ne (ne_of_none hb hD)]
        exact e14.hh b u hb
      · rw [upd_ne (ne_of_none hb nD4)]
        exact e14.bh b u hb
      · rw [tk, List.filter_append, List.map_append]
        have : [a].filter p = [a] := by simp [hp]
        rw [this]
        exact allR_snoc ((moA _).mo ((e2.bb.trans e3.bb).trans e4.bb) hxs) hy
    | false =>
      refine ⟨B3, xs, e13, nD3, atD3, by omega, ?_⟩
      rw [tk, List.filter_append]
      have : [a].filter p = [] := by simp [hp]
      rw [this, List.append_nil]
      exact (moA _).mo (e2.bb.trans e3.bb) hxs
  · rintro H' ⟨B', xs, e', nD, atD, few, hxs⟩
    rw [List.take_length] at hxs
    refine q (.ref D) (upd B' D (.lst xs)) H' ⟨e.hh.trans e'.hh, (e.bb.trans e'.bb).trans (new_same nD), fun b u hb => ?_, fun b h1 h2 => ?_⟩ ⟨D, xs, rfl, SqL.of upd_same, (moA _).mo (new_same nD) hxs⟩
    · by_cases z : b = D
      · subst z
        rw [upd_same] at hb
        cases hb
        exact atD
      · rw [upd_ne z] at hb
        exact e'.bh b u hb
    · have z : b ≠ D := by
        rintro rfl
        cases w : H b with
        | none => exact h1 w
        | some u =>
          rw [e.hh b u w] at hD
          cases hD
      rw [upd_ne z]
      exact (e.trans e').nw b h1 h2
/-- .. of data -/
theorem De.lcD {α : Type} {as : List α} {r : α → Rel} {wi : TI} {g : TG} {vs : List Nat} (hi : Di wi σ B (as.map r)) (p : α → Bool) (o : α → PyData) (hz : as.length < sizeLine)
    (turn : ∀ a v Bn H, a ∈ as → Same B Bn → Same Bn H → r a Bn v → ∃ σ2, (∀ Q : L2.St → Hp → Prop, Q σ2 H → g v (wipe σ vs) H Q) ∧ wipe σ2 vs = wipe σ vs ∧ Dt tt σ2 Bn (p a) ∧ (p a = true → De te σ2 Bn (dat K (o a)))) :
    De (tLc wi g tt te vs) σ B (dat K (.list ((as.filter p).map o))) :=
  (De.lc (K := K) hi p (fun a => dat K (o a)) hz turn).conv fun B' v h => lstR_dat (by rw [List.map_map]; exact h)
/-- without a test -/
theorem De.lcA {α : Type} {as : List α} {r : α → Rel} {wi : TI} {g : TG} {vs : List Nat} (hi : Di wi σ B (as.map r)) (o : α → PyData) (hz : as.length < sizeLine)
    (turn : ∀ a v Bn H, a ∈ as → Same B Bn → Same Bn H → r a Bn v → ∃ σ2, (∀ Q : L2.St → Hp → Prop, Q σ2 H → g v (wipe σ vs) H Q) ∧ wipe σ2 vs = wipe σ vs ∧ De te σ2 Bn (dat K (o a))) :
    De (tLc wi g tYes te vs) σ B (dat K (.list (as.map o))) := by
  have := De.lcD (K := K) (tt := tYes) (te := te) hi (fun _ => true) o hz fun a v Bn H h1 h2 h3 h4 => by
    obtain ⟨σ2, t1, t2, t3⟩ := turn a v Bn H h1 h2 h3 h4
    exact ⟨σ2, t1, t2, .yes, fun _ => t3⟩
  rw [List.filter_eq_self.mpr (fun _ _ => rfl)] at this
  exact this
/-- a pair is taken apart -/
theorem gTup2 {Bn H : Hp} {v : V} {R S : Rel} {σ1 : L2.St} {i j : Nat} (s : Same Bn H) (h : tupR K [R, S] Bn v) : ∃ x y, R Bn x ∧ S Bn y ∧ ∀ Q : L2.St → Hp → Prop, Q ((σ1.set i (some x)).set j (some y)) H → gTup K 2 (gCons (gName i) (gCons (gName j) gNil)) v σ1 H Q := by
  obtain ⟨a, xs, rfl, hs, x, r, rfl, hx, y, r', rfl, hy, hr⟩ := h
  have hr : r' = [] := hr
  subst hr
  exact ⟨x, y, hx, hy, fun Q q => ⟨a, _, rfl, seqT s hs, rfl, x, [y], rfl, y, [], rfl, rfl, q⟩⟩
theorem dat_pair {d e : PyData} {Bn : Hp} {v : V} (h : dat K (.tuple [d, e]) Bn v) : tupR K [dat K d, dat K e] Bn v := dat_tupR h

/-! ### built-in functions -/
theorem rc_len {ds : List PyData} : Rc (fun xs H Q => ∃ x n, xs = [x] ∧ LenV K x H n ∧ Q (.int n) H) B [dat K (.list ds)] (dat K (.int (ds.length : Int))) := fun vs B1 H _ s2 hv Q q => by
  obtain ⟨v, r, rfl, h, h2⟩ := hv
  have h2 : r = [] := h2
  subst h2
  obtain ⟨a, xs, rfl, hs, hR⟩ := dat_lstR h
  have len := allR_len hR
  rw [List.length_map] at len
  exact ⟨.ref a, ds.length, rfl, .inl ⟨xs, s2.seq hs, len.symm⟩, q _ B1 H (.refl s2) (.int _)⟩
theorem rc_lenT {ds : List PyData} : Rc (fun xs H Q => ∃ x n, xs = [x] ∧ LenV K x H n ∧ Q (.int n) H) B [dat K (.tuple ds)] (dat K (.int (ds.length : Int))) := fun vs B1 H _ s2 hv Q q => by
  obtain ⟨v, r, rfl, h, h2⟩ := hv
  have h2 : r = [] := h2
  subst h2
  obtain ⟨a, xs, rfl, hs, hR⟩ := dat_tupR h
  have len := allR_len hR
  rw [List.length_map] at len
  exact ⟨.ref a, ds.length, rfl, .inr ⟨xs, seqT s2 hs, len.symm⟩, q _ B1 H (.refl s2) (.int _)⟩
theorem rc_lenS {z : Str} (hz : z.length ≤ sizeLine) : Rc (fun xs H Q => ∃ x n, xs = [x] ∧ LenV K x H n ∧ Q (.int n) H) B [dat K (.str z)] (dat K (.int (z.length : Int))) := fun vs B1 H _ s2 hv Q q => by
  obtain ⟨v, r, rfl, h, h2⟩ := hv
  have h2 : r = [] := h2
  subst h2
  have h := dat_str h
  subst h
  exact ⟨.str z, z.length, rfl, ⟨hz, rfl⟩, q _ B1 H (.refl s2) (.int _)⟩
theorem rc_show {d : PyData} (h : Shw d) : Rc (rShow K) B [dat K d] (dat K (.str d.shown)) := fun vs B1 H _ s2 hv Q q => by
  obtain ⟨v, r, rfl, hv, h2⟩ := hv
  have h2 : r = [] := h2
  subst h2
  exact ⟨v, d, rfl, dpMono s2 _ _ hv, h.1, h.2.1, h.2.2.1, h.2.2.2, q _ B1 H (.refl s2) (.str _)⟩
theorem rc_tupL {Rs : List Rel} [m : MoA Rs] : Rc (fun xs H Q => ∃ p ys, xs = [.ref p] ∧ ((SqL K H p ys ∧ ∀ l, H l = none → Q (.ref l) (upd H l (.tup ys))) ∨ (SqT K H p ys ∧ Q (.ref p) H))) B [lstR K Rs] (tupR K Rs) := fun vs B1 H _ s2 hv Q q => by
  obtain ⟨v, r, rfl, ⟨a, xs, rfl, hs, hR⟩, h2⟩ := hv
  have h2 : r = [] := h2
  subst h2
  exact ⟨a, xs, rfl, .inl ⟨s2.seq hs, fun p hp => q _ (upd B1 p (.tup xs)) _ (.new s2 hp) ⟨p, xs, rfl, SqT.of upd_same, m.mo (new_same (s2.free hp)) hR⟩⟩⟩
theorem rc_tupT {Rs : List Rel} [m : MoA Rs] : Rc (fun xs H Q => ∃ p ys, xs = [.ref p] ∧ ((SqL K H p ys ∧ ∀ l, H l = none → Q (.ref l) (upd H l (.tup ys))) ∨ (SqT K H p ys ∧ Q (.ref p) H))) B [tupR K Rs] (tupR K Rs) := fun vs B1 H _ s2 hv Q q => by
  obtain ⟨v, r, rfl, ⟨a, xs, rfl, hs, hR⟩, h2⟩ := hv
  have h2 : r = [] := h2
  subst h2
  exact ⟨a, xs, rfl, .inr ⟨seqT s2 hs, q _ B1 H (.refl s2) ⟨a, xs, rfl, hs, hR⟩⟩⟩
theorem rc_lstL {Rs : List Rel} [m : MoA Rs] : Rc (fun xs H Q => ∃ p ys, xs = [.ref p] ∧ (SqL K H p ys ∨ SqT K H p ys) ∧ ∀ l, H l = none → Q (.ref l) (upd H l (.lst ys))) B [lstR K Rs] (lstR K Rs) := fun vs B1 H _ s2 hv Q q => by
  obtain ⟨v, r, rfl, ⟨a, xs, rfl, hs, hR⟩, h2⟩ := hv
  have h2 : r = [] := h2
  subst h2
  exact ⟨a, xs, rfl, .inl (s2.seq hs), fun p hp => q _ (upd B1 p (.lst xs)) _ (.new s2 hp) ⟨p, xs, rfl, SqL.of upd_same, m.mo (new_same (s2.free hp)) hR⟩⟩
theorem rc_lstT {Rs : List Rel} [m : MoA Rs] : Rc (fun xs H Q => ∃ p ys, xs = [.ref p] ∧ (SqL K H p ys ∨ SqT K H p ys) ∧ ∀ l, H l = none → Q (.ref l) (upd H l (.lst ys))) B [tupR K Rs] (lstR K Rs) := fun vs B1 H _ s2 hv Q q => by
  obtain ⟨v, r, rfl, ⟨a, xs, rfl, hs, hR⟩, h2⟩ := hv
  have h2 : r = [] := h2
  subst h2
  exact ⟨a, xs, rfl, .inr (seqT s2 hs), fun p hp => q _ (upd B1 p (.lst xs)) _ (.new s2 hp) ⟨p, xs, rfl, SqL.of upd_same, m.mo (new_same (s2.free hp)) hR⟩⟩
theorem rc_sorted {ds : List PyData} (hal : PySem.W.AllAlike ds) (hk : PySem.W.SortOk ds) (hd : ∀ d ∈ ds, d.depth ≤ 60) : Rc (rSortedD K) B [dat K (.list ds)] (dat K (.list (sortD ds))) := fun vs B1 H _ s2 hv Q q => by
  obtain ⟨v, r, rfl, h, h2⟩ := hv
  have h2 : r = [] := h2
  subst h2
  obtain ⟨a, xs, rfl, hs, hR⟩ := dat_lstR h
  have g := allR_dp hR
  exact ⟨a, xs, ds, rfl, s2.seq hs, dpMonoAll s2 _ _ g, hal, hk, hd, fun p hp => q _ (upd B1 p (.lst (sortV xs ds))) _ (.new s2 hp) (.lst (SqL.of upd_same) (dpMonoAll (new_same (s2.free hp)) _ _ (dp_sort g)))⟩
/-- lists and tuples of data, by what they are -/
theorem Da.one {d : PyData} (h : De ta σ B (dat K d)) : Da (tCons ta tNil) σ B [dat K d] := .cons h .nil

/-! ### objects that never change -/
def AllF : List (Str × Rel) → Hp → List (Str × V) → Prop
  | [], _, us => us = []
  | (f, R) :: r, B, us => ∃ v u, us = (f, v) :: u ∧ R B v ∧ AllF r B u
class MoF (fs : List (Str × Rel)) : Prop where
  mo : ∀ {B B' : Hp} {us : List (Str × V)}, Same B B' → AllF fs B us → AllF fs B' us
instance : MoF [] := ⟨fun _ h => h⟩
instance {f : Str} {R : Rel} {r : List (Str × Rel)} [m : Mo R] [t : MoF r] : MoF ((f, R) :: r) := ⟨fun s ⟨v, u, e, h, g⟩ => ⟨v, u, e, m.mo s h, t.mo s g⟩⟩
def insR (C : Addr) (fs : List (Str × Rel)) : Rel := fun B v => ∃ a dx us, v = .ref a ∧ B a = some (.ins C dx us) ∧ AllF fs B us
instance {C : Addr} {fs : List (Str × Rel)} [m : MoF fs] : Mo (insR C fs) := ⟨fun s ⟨a, dx, us, e, h, g⟩ => ⟨a, dx, us, e, s _ _ h, m.mo s g⟩⟩
theorem allF_get {f : Str} : ∀ {fs : List (Str × Rel)} {us : List (Str × V)}, AllF fs B us → fs.lookup f = some R → ∃ v, us.lookup f = some v ∧ R B v
  | (g, S) :: r, _, ⟨v, u, e, h, t⟩, z => by
    subst e
    simp only [List.lookup] at *
    cases q : f == g with
    | true =>
      rw [q] at z
      cases z
      exact ⟨v, rfl, h⟩
    | false =>
      rw [q] at z
      exact allF_get t z
theorem De.fld {C : Addr} {f : Str} {fs : List (Str × Rel)} (he : De te σ B (insR C fs)) (c : Cls K C) (n : NoAttr K C f) (hf : fs.lookup f = some R) : De (tFld K te f) σ B R := fun B1 H s1 s2 Q q => he B1 H s1 s2 _ fun v B2 H2 e hv => by
  obtain ⟨a, dx, us, rfl, h, g⟩ := hv
  obtain ⟨x, hx, hR⟩ := allF_get g hf
  exact ⟨a, C, dx, us, x, rfl, e.bh _ _ h, c, n, hx, q x B2 H2 e hR⟩
/-- __init__ that keeps its arguments -/
def spIns (C : Addr) (fs : List Str) : Sp := fun vs H Q _ => ∃ (x dx : Addr) (us : List V), vs = .ref x :: us ∧ us.length = fs.length ∧ H x = some (.ins C dx []) ∧ Q .non (upd H x (.ins C dx (fs.zip us)))
theorem allF_zip : ∀ {fs : List Str} {Rs : List Rel} {us : List V}, fs.length = Rs.length → AllR Rs B us → AllF (fs.zip Rs) B (fs.zip us)
  | [], [], _, _, _ => rfl
  | f :: fs, R :: Rs, _, h, ⟨v, u, e, g, t⟩ => by
    subst e
    exact ⟨v, _, rfl, g, allF_zip (by simpa using h) t⟩
theorem upd_over {H : Hp} {x d : Addr} {o p q : HO} : upd (upd (upd H d p) x o) x q = upd (upd H d p) x q := by
  funext b
  unfold upd
  by_cases h : b = x
  · rw [if_pos h, if_pos h]
  · rw [if_neg h, if_neg h, if_neg h]
theorem De.make {C : Addr} {fs : List Str} {E : XK} {ta : TA} [m : MoA Rs] (ha : Da ta σ B Rs) (hl : fs.length = Rs.length) : De (tMake C (spIns C fs) [] E ta) σ B (insR C (fs.zip Rs)) := fun B1 H s1 s2 Q q =>
  ha B1 H s1 s2 _ fun vs B2 H2 e hv => fun x dx hx hd ne => by
    have len := allR_len hv
    refine ⟨x, dx, vs, by rw [List.append_nil], by omega, upd_same, rfl, ?_⟩
    rw [upd_over]
    have e1 : Ext B2 H2 B2 (upd H2 dx (.own x)) := .own e.bh hd
    have hx1 : upd H2 dx (.own x) x = none := by
      rw [upd_ne ne.symm]
      exact hx
    have e2 := Ext.new (o := .ins C dx (fs.zip vs)) e1.bh hx1
    exact q _ _ _ ((e.trans e1).trans e2) ⟨x, dx, _, rfl, upd_same, allF_zip hl (m.mo (new_same (e.bh.free hx)) hv)⟩
end
end Wv

set_option Elab.async false
set_option linter.all false
set_option maxRecDepth 100000
set_option maxHeartbeats 4000000
/-! Wv2: comprehensions with two fors, list(range), classes by their names, data args. -/
namespace Wv
open PySem PySem.Spec PyProof.Rows L2 Wb
section
variable {K : PySem.W.Frag} {σ : L2.St} {B B' : Hp} {ta tb te tl : TE} {tt tu : TT} {R S T U : Rel} {Rs : List Rel} {x v : V}
theorem stays {B H B' H' : Hp} {D : Addr} {o : HO} (e : Ext B H B' H') (h : H D = some o) (n : B D = none) : H' D = some o ∧ B' D = none :=
  ⟨e.hh _ _ h, e.nw D (by rw [h]; exact fun z => nomatch z) n⟩
/-- one more in a list that is being made -/
theorem grown {B2 H2 B4 H4 : Hp} {D : Addr} {xs : List V} {y : V} (hD : H2 D = none) (e : Ext B2 H2 B4 H4) (n : B4 D = none) : Ext B2 H2 B4 (upd H4 D (.lst (xs ++ [y]))) :=
  ⟨fun b u hb => by
    rw [upd_ne (ne_of_none hb hD)]
    exact e.hh b u hb, e.bb, fun b u hb => by
    rw [upd_ne (ne_of_none hb n)]
    exact e.bh b u hb, e.nw⟩
theorem De.lc2D {α β : Type} {as : List α} {r : α → Rel} {wi wi1 : TI} {g g1 : TG} {vs vs1 : List Nat} (hi : Di wi σ B (as.map r)) (bs : α → List β) (r1 : α → β → Rel) (o : α → β → PyData) (hz : (as.flatMap fun a => (bs a).map (o a)).length < sizeLine)
    (turn : ∀ a v Bn H, a ∈ as → Same B Bn → Same Bn H → r a Bn v → ∃ σ2, (∀ Q : L2.St → Hp → Prop, Q σ2 H → g v (wipe σ vs) H Q) ∧ wipe σ2 vs = wipe σ vs ∧ Di wi1 σ2 Bn ((bs a).map (r1 a)) ∧
      ∀ b v' Bm H', b ∈ bs a → Same Bn Bm → Same Bm H' → r1 a b Bm v' → ∃ σ3, (∀ Q : L2.St → Hp → Prop, Q σ3 H' → g1 v' (wipe σ2 vs1) H' Q) ∧ wipe σ3 vs1 = wipe σ2 vs1 ∧ De te σ3 Bm (dat K (o a b))) :
    De (tLc2 wi g tYes wi1 g1 tYes te vs vs1) σ B (dat K (.list (as.flatMap fun a => (bs a).map (o a)))) := fun B1 H s1 s2 Q q => hi B1 H s1 s2 _ fun J B2 H2 e hw => fun D hD => by
  have w : Walk J as.length (fun H => Same B2 H) (fun i H x H' => ∃ R, (as.map r)[i]? = some R ∧ ∀ Bc, Same B2 Bc → Same Bc H → ∃ Bn, Ext Bc H Bn H' ∧ R Bn x) := by
    have := hw
    unfold Wk at this
    rw [List.length_map] at this
    exact this
  have part : ∀ i, i ≤ as.length → ((as.take i).flatMap fun a => (bs a).map (o a)).length ≤ (as.flatMap fun a => (bs a).map (o a)).length := fun i _ => by
    conv => rhs; rw [← List.take_append_drop i as, List.flatMap_append, List.length_append]
    omega
  refine ⟨fun i m H' => m = as.length - i ∧ i ≤ as.length ∧ ∃ B' xs, Ext B2 H2 B' H' ∧ B' D = none ∧ H' D = some (.lst xs) ∧ AllR (((as.take i).flatMap fun a => (bs a).map (o a)).map (dat K)) B' xs,
    ⟨as.length, rfl, Nat.zero_le _, B2, [], .own e.bh hD, e.bh.free hD, upd_same, by rw [List.take_zero]; rfl⟩, ?_⟩
  rintro i m H' ⟨rfl, le, B', xs, e', nD, atD, hxs⟩
  by_cases lt : i < as.length
  · refine .inr ⟨w.goes i H' lt (e'.bb.trans e'.bh), fun H'' => ∃ B' xs, Ext B2 H2 B' H'' ∧ B' D = none ∧ H'' D = some (.lst xs) ∧ AllR (((as.take (i + 1)).flatMap fun a => (bs a).map (o a)).map (dat K)) B' xs,
      fun H'' h => ⟨as.length - (i + 1), by omega, rfl, lt, h⟩, fun x H'' y => ?_⟩
    obtain ⟨R, hR, y⟩ := w.yields i H' x H'' lt (e'.bb.trans e'.bh) y
    obtain ⟨Bn, e2, hx⟩ := y B' e'.bb e'.bh
    rw [List.getElem?_map] at hR
    obtain ⟨a, ha, rfl⟩ := Option.map_eq_some_iff.mp hR
    obtain ⟨σ2, t1, t2, t3, t4⟩ := turn a x Bn H'' (List.mem_of_getElem? ha) (((s1.trans e.bb).trans e'.bb).trans e2.bb) e2.bh hx
    obtain ⟨atD2, nD2⟩ := stays e2 atD nD
    have tk : as.take (i + 1) = as.take i ++ [a] := by rw [List.take_succ, ha]; rfl
    have pt := part (i + 1) lt
    rw [tk, List.flatMap_append, List.length_append] at pt
    have e1f : ([a].flatMap fun a => (bs a).map (o a)) = (bs a).map (o a) := by simp
    rw [e1f, List.length_map] at pt
    refine t1 _ ⟨t2, ?_⟩
    show wi1 σ2 H'' _
    refine t3 Bn H'' (Same.refl _) e2.bh _ fun J1 Bm H4 e3 hw1 => ?_
    have w1 : Walk J1 (bs a).length (fun H => Same Bm H) (fun i H x H' => ∃ R, ((bs a).map (r1 a))[i]? = some R ∧ ∀ Bc, Same Bm Bc → Same Bc H → ∃ Bn, Ext Bc H Bn H' ∧ R Bn x) := by
      have := hw1
      unfold Wk at this
      rw [List.length_map] at this
      exact this
    obtain ⟨atD3, nD3⟩ := stays e3 atD2 nD2
    have e13 := (e'.trans e2).trans e3
    refine ⟨fun j k H5 => k = (bs a).length - j ∧ j ≤ (bs a).length ∧ ∃ B5 ys, Ext B2 H2 B5 H5 ∧ Same Bm B5 ∧ B5 D = none ∧ H5 D = some (.lst ys) ∧ AllR ((((as.take i).flatMap fun a => (bs a).map (o a)) ++ ((bs a).take j).map (o a)).map (dat K)) B5 ys,
      ⟨(bs a).length, rfl, Nat.zero_le _, Bm, xs, e13, Same.refl _, nD3, atD3, ?_⟩, ?_⟩
    · rw [List.take_zero, List.map_nil, List.append_nil]
      exact MoA.mo (e2.bb.trans e3.bb) hxs
    rintro j k H5 ⟨rfl, le1, B5, ys, e5, sm, nD5, atD5, hys⟩
    by_cases lt1 : j < (bs a).length
    · refine .inr ⟨w1.goes j H5 lt1 (sm.trans e5.bh), fun H6 => ∃ B5 ys, Ext B2 H2 B5 H6 ∧ Same Bm B5 ∧ B5 D = none ∧ H6 D = some (.lst ys) ∧ AllR ((((as.take i).flatMap fun a => (bs a).map (o a)) ++ ((bs a).take (j + 1)).map (o a)).map (dat K)) B5 ys,
        fun H6 h => ⟨(bs a).length - (j + 1), by omega, rfl, lt1, h⟩, fun x' H6 y' => ?_⟩
      obtain ⟨R', hR', y'⟩ := w1.yields j H5 x' H6 lt1 (sm.trans e5.bh) y'
      obtain ⟨B6, e6, hx'⟩ := y' B5 sm e5.bh
      rw [List.getElem?_map] at hR'
      obtain ⟨b, hb, rfl⟩ := Option.map_eq_some_iff.mp hR'
      obtain ⟨σ3, u1, u2, u3⟩ := t4 b x' B6 H6 (List.mem_of_getElem? hb) ((e3.bb.trans sm).trans e6.bb) e6.bh hx'
      obtain ⟨atD6, nD6⟩ := stays e6 atD5 nD5
      refine u1 _ ⟨u2, ?_⟩
      show te σ3 H6 _
      refine u3 B6 H6 (Same.refl _) e6.bh _ fun y7 B7 H7 e7 hy7 => ?_
      obtain ⟨atD7, nD7⟩ := stays e7 atD6 nD6
      have len := allR_len hys
      rw [List.length_map, List.length_append, List.length_map, List.length_take] at len
      have tk1 : (bs a).take (j + 1) = (bs a).take j ++ [b] := by rw [List.take_succ, hb]; rfl
      refine ⟨ys, atD7, by omega, B7, ys ++ [y7], grown hD ((e5.trans e6).trans e7) nD7, (sm.trans e6.bb).trans e7.bb, nD7, upd_same, ?_⟩
      have eq : ((as.take i).flatMap fun a => (bs a).map (o a)) ++ ((bs a).take (j + 1)).map (o a) = (((as.take i).flatMap fun a => (bs a).map (o a)) ++ ((bs a).take j).map (o a)) ++ [o a b] := by
        rw [tk1, List.map_append, ← List.append_assoc]
        rfl
      rw [eq, List.map_append (l₂ := [o a b])]
      exact allR_snoc (MoA.mo (e6.bb.trans e7.bb) hys) hy7
    · have : j = (bs a).length := by omega
      subst this
      refine .inl ⟨w1.stops H5 (sm.trans e5.bh), B5, ys, e5, nD5, atD5, ?_⟩
      rw [List.take_length] at hys
      rw [tk, List.flatMap_append, e1f]
      exact hys
  · have : i = as.length := by omega
    subst this
    refine .inl ⟨w.stops H' (e'.bb.trans e'.bh), ?_⟩
    rw [List.take_length] at hxs
    refine q (.ref D) (upd B' D (.lst xs)) H' ⟨e.hh.trans e'.hh, (e.bb.trans e'.bb).trans (new_same nD), fun b u hb => ?_, fun b h1 h2 => ?_⟩ (lstR_dat ⟨D, xs, rfl, SqL.of upd_same, MoA.mo (new_same nD) hxs⟩)
    · by_cases z : b = D
      · subst z
        rw [upd_same] at hb
        cases hb
        exact atD
      · rw [upd_ne z] at hb
        exact e'.bh b u hb
    · have z : b ≠ D := by
        rintro rfl
        cases w : H b with
        | none => exact h1 w
        | some u =>
          rw [e.hh b u w] at hD
          cases hD
      rw [upd_ne z]
      exact (e.trans e').nw b h1 h2
/-- walks over data that stands for things -/
theorem Di.conv {wi : TI} {Ss : List Rel} (h : Di wi σ B Rs) (e : Rs = Ss) : Di wi σ B Ss := e ▸ h
theorem Di.listM {α : Type} {as : List α} {f : α → PyData} (h : De tl σ B (dat K (.list (as.map f)))) : Di (iList K tl) σ B (as.map fun a => dat K (f a)) := (Di.listD h).conv (by rw [List.map_map]; rfl)
theorem Di.tupM {α : Type} {as : List α} {f : α → PyData} (h : De tl σ B (dat K (.tuple (as.map f)))) : Di (iTup K tl) σ B (as.map fun a => dat K (f a)) := (Di.tupD h).conv (by rw [List.map_map]; rfl)
theorem rangeI {lo : Int} {n : Nat} : intsR K lo n = (List.range n).map fun i : Nat => dat K (.int (lo + (i : Int))) := rfl
theorem Di.rng {ta : TE} {n : Nat} (h : De ta σ B (dat K (.int (n : Int)))) (h1 : n < 2 ^ 62) : Di (iRng1 (tCons ta tNil)) σ B ((List.range n).map fun i : Nat => dat K (.int (i : Int))) := by
  have := Di.rng1 (K := K) (Da.one h) (by omega) (by omega)
  refine this.conv ?_
  unfold intsR
  have e : ((n : Int)).toNat = n := by omega
  rw [e]
  exact List.map_congr_left fun i _ => by rw [Int.zero_add]
/-- data, one after another -/
def Dd (K : PySem.W.Frag) (ta : TA) (σ : L2.St) (B : Hp) (ds : List PyData) : Prop := Da ta σ B (ds.map (dat K))
theorem Dd.nil : Dd K tNil σ B [] := Da.nil
theorem Dd.cons {tr : TA} {d : PyData} {ds : List PyData} (h : De ta σ B (dat K d)) (t : Dd K tr σ B ds) : Dd K (tCons ta tr) σ B (d :: ds) := Da.cons h t
theorem De.tupD {ta : TA} {ds : List PyData} (h : Dd K ta σ B ds) (hz : ds.length ≤ sizeLine) : De (tTup ta) σ B (dat K (.tuple ds)) := (De.tup h (by rw [List.length_map]; exact hz)).conv fun _ _ => tupR_dat
theorem De.lstD {ta : TA} {ds : List PyData} (h : Dd K ta σ B ds) (hz : ds.length ≤ sizeLine) : De (tLst ta) σ B (dat K (.list ds)) := (De.lst h (by rw [List.length_map]; exact hz)).conv fun _ _ => lstR_dat
/-- tuple(list), tuple(tuple), list(..) -/
theorem De.tupleL {ta : TE} {ds : List PyData} (h : De ta σ B (dat K (.list ds))) : De (tCB (fun xs H Q => ∃ p ys, xs = [.ref p] ∧ ((SqL K H p ys ∧ ∀ l, H l = none → Q (.ref l) (upd H l (.tup ys))) ∨ (SqT K H p ys ∧ Q (.ref p) H))) (tCons ta tNil)) σ B (dat K (.tuple ds)) :=
  (De.cb (.cons (h.conv fun _ _ => dat_lstR) .nil) rc_tupL).conv fun _ _ => tupR_dat
theorem De.tupleT {ta : TE} {ds : List PyData} (h : De ta σ B (dat K (.tuple ds))) : De (tCB (fun xs H Q => ∃ p ys, xs = [.ref p] ∧ ((SqL K H p ys ∧ ∀ l, H l = none → Q (.ref l) (upd H l (.tup ys))) ∨ (SqT K H p ys ∧ Q (.ref p) H))) (tCons ta tNil)) σ B (dat K (.tuple ds)) :=
  (De.cb (.cons (h.conv fun _ _ => dat_tupR) .nil) rc_tupT).conv fun _ _ => tupR_dat
theorem De.listL {ta : TE} {ds : List PyData} (h : De ta σ B (dat K (.list ds))) : De (tCB (fun xs H Q => ∃ p ys, xs = [.ref p] ∧ (SqL K H p ys ∨ SqT K H p ys) ∧ ∀ l, H l = none → Q (.ref l) (upd H l (.lst ys))) (tCons ta tNil)) σ B (dat K (.list ds)) :=
  (De.cb (.cons (h.conv fun _ _ => dat_lstR) .nil) rc_lstL).conv fun _ _ => lstR_dat
theorem De.listT {ta : TE} {ds : List PyData} (h : De ta σ B (dat K (.tuple ds))) : De (tCB (fun xs H Q => ∃ p ys, xs = [.ref p] ∧ (SqL K H p ys ∨ SqT K H p ys) ∧ ∀ l, H l = none → Q (.ref l) (upd H l (.lst ys))) (tCons ta tNil)) σ B (dat K (.list ds)) :=
  (De.cb (.cons (h.conv fun _ _ => dat_tupR) .nil) rc_lstT).conv fun _ _ => lstR_dat
theorem De.lenL {ta : TE} {ds : List PyData} (h : De ta σ B (dat K (.list ds))) : De (tCB (fun xs H Q => ∃ x n, xs = [x] ∧ LenV K x H n ∧ Q (.int n) H) (tCons ta tNil)) σ B (dat K (.int (ds.length : Int))) := .cb (.one h) rc_len
theorem De.lenT {ta : TE} {ds : List PyData} (h : De ta σ B (dat K (.tuple ds))) : De (tCB (fun xs H Q => ∃ x n, xs = [x] ∧ LenV K x H n ∧ Q (.int n) H) (tCons ta tNil)) σ B (dat K (.int (ds.length : Int))) := .cb (.one h) rc_lenT
theorem De.sorted {ta : TE} {ds : List PyData} (h : De ta σ B (dat K (.list ds))) (hal : PySem.W.AllAlike ds) (hk : PySem.W.SortOk ds) (hd : ∀ d ∈ ds, d.depth ≤ 60) : De (tCB (rSortedD K) (tCons ta tNil)) σ B (dat K (.list (sortD ds))) := .cb (.one h) (rc_sorted hal hk hd)
theorem De.show {ta : TE} {d : PyData} (h : De ta σ B (dat K d)) (hs : Shw d) : De (tCB (rShow K) (tCons ta tNil)) σ B (dat K (.str d.shown)) := .cb (.one h) (rc_show hs)
theorem De.listRg {ta : TE} {n : Nat} (h : De ta σ B (dat K (.int (n : Int)))) (h1 : n ≤ 1000000) : De (tLstRg (tRg1 ta)) σ B (dat K (.list ((List.range n).map fun i : Nat => .int (i : Int)))) := fun B1 H s1 s2 Q q => h B1 H s1 s2 _ fun v B2 H2 e hv => by
  have hv := dat_int hv
  subst hv
  refine ⟨n, rfl, RgOk.of_le (Int.le_refl 0) (by omega) (by decide) (by omega), fun p hp => ?_⟩
  have ev : rgV 0 (n : Int) = ((List.range n).map fun i : Nat => V.int (i : Int)) := by
    unfold rgV
    have e : ((n : Int) - 0).toNat = n := by omega
    rw [e]
    exact List.map_congr_left fun i _ => by rw [Int.zero_add]
  rw [ev]
  refine q _ (upd B2 p (.lst ((List.range n).map fun i : Nat => V.int (i : Int)))) _ (e.trans (.new e.bh hp)) ?_
  refine Dp.lst (SqL.of upd_same) ?_
  have : ∀ l : List Nat, DpAll K (upd B2 p (.lst ((List.range n).map fun i : Nat => V.int (i : Int)))) (l.map fun i : Nat => V.int (i : Int)) (l.map fun i : Nat => PyData.int (i : Int)) := by
    intro l
    induction l with
    | nil => exact .nil
    | cons i l ih => exact .cons (.int _) ih
  exact this _
theorem Rv.catS {xs ys : List PyData} (hz : xs.length + ys.length ≤ sizeLine) : Rv (rCatS K) B (dat K (.list xs)) (dat K (.list ys)) (dat K (.list (xs ++ ys))) := fun x y B1 H _ s2 hx hy Q q => by
  obtain ⟨a, us, rfl, h, g⟩ := dat_lstR hx
  obtain ⟨b, ws, rfl, h', g'⟩ := dat_lstR hy
  have l1 := allR_len g
  have l2 := allR_len g'
  rw [List.length_map] at l1 l2
  refine ⟨a, b, us, ws, rfl, rfl, s2.seq h, s2.seq h', by omega, fun p hp => ?_⟩
  refine q _ (upd B1 p (.lst (us ++ ws))) _ (.new s2 hp) ?_
  have s := new_same (o := .lst (us ++ ws)) (s2.free hp)
  exact .lst (SqL.of upd_same) (dpMonoAll s _ _ (allR_dp (by rw [List.map_append]; exact allR_app g g')))
theorem Rv.inT {d : PyData} {ds : List PyData} (hd : SeqAt.shaped d = true) (he : SeqAt.shaped (.tuple ds) = true) : Rv (rInT K false) B (dat K d) (dat K (.tuple ds)) (dat K (.bool (ds.any fun z => PyData.eqv z d))) := fun x y B1 H _ s2 hx hy Q q =>
  ⟨d, ds, dpMono s2 _ _ hx, dpMono s2 _ _ hy, hd, he, q _ B1 H (.refl s2) (Dp.bl _)⟩
theorem Rv.notInT {d : PyData} {ds : List PyData} (hd : SeqAt.shaped d = true) (he : SeqAt.shaped (.tuple ds) = true) : Rv (rInT K true) B (dat K d) (dat K (.tuple ds)) (dat K (.bool (!ds.any fun z => PyData.eqv z d))) := fun x y B1 H _ s2 hx hy Q q =>
  ⟨d, ds, dpMono s2 _ _ hx, dpMono s2 _ _ hy, hd, he, q _ B1 H (.refl s2) (Dp.bl _)⟩
theorem Rv.eqI {i j : Int} : Rv rEq B (dat K (.int i)) (dat K (.int j)) (dat K (.bool (decide (i = j)))) := fun x y B1 H _ s2 hx hy Q q => by
  have hx := dat_int hx
  have hy := dat_int hy
  subst hx hy
  have e : decide (V.int i = V.int j) = decide (i = j) := by simp
  refine ⟨rfl, ?_⟩
  rw [e]
  exact q _ B1 H (.refl s2) (Dp.bl _)
theorem Rv.neI {i j : Int} : Rv rNe B (dat K (.int i)) (dat K (.int j)) (dat K (.bool (!decide (i = j)))) := fun x y B1 H _ s2 hx hy Q q => by
  have hx := dat_int hx
  have hy := dat_int hy
  subst hx hy
  have e : decide (V.int i = V.int j) = decide (i = j) := by simp
  refine ⟨rfl, ?_⟩
  rw [e]
  exact q _ B1 H (.refl s2) (Dp.bl _)
theorem Rv.eqS {i j : Str} : Rv rEq B (dat K (.str i)) (dat K (.str j)) (dat K (.bool (decide (i = j)))) := fun x y B1 H _ s2 hx hy Q q => by
  have hx := dat_str hx
  have hy := dat_str hy
  subst hx hy
  have e : decide (V.str i = V.str j) = decide (i = j) := by simp
  refine ⟨rfl, ?_⟩
  rw [e]
  exact q _ B1 H (.refl s2) (Dp.bl _)
theorem Rv.neS {i j : Str} : Rv rNe B (dat K (.str i)) (dat K (.str j)) (dat K (.bool (!decide (i = j)))) := fun x y B1 H _ s2 hx hy Q q => by
  have hx := dat_str hx
  have hy := dat_str hy
  subst hx hy
  have e : decide (V.str i = V.str j) = decide (i = j) := by simp
  refine ⟨rfl, ?_⟩
  rw [e]
  exact q _ B1 H (.refl s2) (Dp.bl _)
end
section
variable (P : Program) (w : World) (K : PySem.W.Frag) (mg : Str → Option Value) (base : Heap)
/-- a class of objects that keep their arguments -/
structure CalC (x : Str) (C : Addr) (fs : List Str) : Prop where
  c : Cls K C
  g : mg x = some (.ref C)
  na : ∀ f ∈ fs, NoAttr K C f
  ini : ∃ (f : Addr) (fd : FuncData), Mk K C f ∧ FnOk P w K mg base CX0 1 f fd ("self" :: fs) (spIns C fs) ∧ Binds K fd ("self" :: fs) []
end
section
variable {X : Cx} {x : Str} {C : Addr} {fs : List Str} {k : Nat} {p pos : Pos} {e : Expr} {es : List Expr} {t : TA}
theorem pe_calC (c : CalC X.prog X.w X.K X.mg X.base x C fs) (hr : Room k X.A) (hk : 2 ≤ k) (hg : Gl X x) (ha : PA X (e :: es) t) (hdb : (x == ("__debug__" : Str)) = false := by decide)
    (he : starEach (e :: es) X.env = (false, eval e X.env) :: starEach es X.env := by rfl) (hpl : (backTo pos (starEach es X.env)).any (·.1) = false := by rfl) : PE X (.Call (.Name x p) (e :: es) [] pos) (tMake C (spIns C fs) [] E0 t) := by
  obtain ⟨f, fd, M, F, b⟩ := c.ini
  exact pe_make M F (hr.mono hk) hg c.g b .nil pass0 ha hdb he hpl
end
end Wv

set_option Elab.async false
set_option linter.all false
set_option maxRecDepth 100000
set_option maxHeartbeats 4000000
/-! Wv3: enumerate of a tuple, zip of tuples; promises by their arguments. -/
namespace Wb
open PySem PySem.Spec PyProof.Rows L2
/-- the tuple at a, each item in a new pair with its number -/
def IteT (K : PySem.W.Frag) (a : Addr) : It :=
  ⟨fun i H => ∃ (xs : List V) (x : V), SqT K H a xs ∧ xs[i]? = some x, fun i H v H' => ∃ T x, v = .ref T ∧ H T = none ∧ H' = upd H T (.tup [.int (i : Nat), x]) ∧ ∀ xs, SqT K H a xs → xs[i]? = some x, fun i H => ∃ xs : List V, SqT K H a xs ∧ xs.length ≤ i⟩
theorem two_mem {α : Type} {b x y : α} (h : b ∈ [x, y]) : b = x ∨ b = y := by simpa using h
theorem apart_tup {h : Heap} {it a : Addr} {i : Nat} {xs : Array Value} (h1 : h.IsTupleIter it a i) (h2 : h.IsTuple a xs) : a ≠ it := by
  rintro rfl
  obtain ⟨o, e, c, _⟩ := h1
  obtain ⟨o', e', c', _⟩ := h2
  rw [e] at e'
  cases e'
  rw [c] at c'
  exact absurd c' (by decide)
theorem turn_enumT {P : Program} {w : World} {K : PySem.W.Frag} {elts : List Expr} {kk : Nat} {tpos : Pos} (a e it : Addr) :
    Turn P w K (.Tuple elts kk tpos) (IteT K a) [e, it] e (fun i h => (∃ old, IsEnum h e it ((i : Nat) : Int) old) ∧ h.IsTupleIter it a i ∧ e ≠ it ∧ e ≠ a) where
  mem := by simp
  obj := fun i h st b hb => by
    obtain ⟨⟨old, he⟩, ⟨o, ho, hc, hd⟩, _⟩ := st
    rcases two_mem hb with z | z <;> subst z
    · exact ⟨_, he, fun v q => nomatch q⟩
    · exact ⟨o, ho, fun v q => by rw [hd] at q; cases q⟩
  keep := fun i h h' ⟨⟨old, he⟩, hi, hne⟩ k => ⟨⟨old, k e (by simp) _ he⟩, hi.at fun o q => k it (by simp) o q, hne⟩
  item := by
    intro X hP hw hK hc i pins s σ H E I hf ⟨⟨old, he⟩, hit, hne, hea⟩ ⟨xs, x, hq, hx⟩
    subst hP hw hK
    obtain ⟨its, rv, p, hz⟩ := I.tuple hq
    obtain ⟨u, hu, ru⟩ := rv.get hx
    have lt : ∀ b ∈ [e, it], b < s.heap.objs.size := fun b hb => by
      rcases two_mem hb with z | z <;> subst z
      · exact Heap.lt_size he
      · obtain ⟨_, q, _⟩ := hit
        exact Heap.lt_size q
    have hel := lt e (by simp)
    have hi : i < its.toArray.size := by
      have := List.getElem?_eq_some_iff.mp hu
      simpa using this.1
    refine wpAny_pyNext_enum_itemD (Draws.tuple (A := X.A.in1) (show X.A.in1.handled = none from I.ok.hd hc) it a (apart_tup hit p) its.toArray) he ⟨hit, p⟩ hi hne (by simp [hne, hea]) fun y h1 tk hy ho hst hT hsz hk => ?_
    have hy : its[i]? = some y := by simpa using hy
    rw [hu] at hy
    cases hy
    refine ⟨_, rfl, wpAny_letOwnedTupleGo_enum (s := { s with heap := h1, toks := tk + 1 }) ho fun h2 he' sb => ?_⟩
    have hT2 := (sb.2 _ (Nat.ne_of_gt hel)).trans hT
    refine ⟨.ref s.heap.objs.size, _, I.turnedNew (t' := tk + 1) (ch := [e, it]) (ob := .tup [.int (i : Nat), x]) (fun b ob hb q => (sb.2 b (fun z => hb (by simp [z]))).trans (hk b ob (fun z => hb (by simp [z])) (fun z => hb (by simp [z])) q)) hf (Nat.le_refl _)
      ⟨by show 2 ≤ sizeLine; decide, [.int i tk, u], .cons ⟨_, rfl⟩ (.cons ru .nil), ⟨_, hT2, rfl, _, rfl⟩⟩, rfl, ⟨_, x, rfl, I.hok.fresh (Nat.le_refl _), rfl, fun ys hy => by rw [I.tuple_inj hy hq]; exact hx⟩, ⟨⟨u, ?_⟩, hst.1.at fun o q => (sb.2 it (Ne.symm hne)).trans q, hne, hea⟩, fun b hb => ?_⟩
    · rw [show ((i + 1 : Nat) : Int) = (i : Int) + 1 by omega]
      exact he'
    · rw [upd_ne (Nat.ne_of_lt (lt b hb))]
      exact (hf b hb).1
  done := by
    intro X hP hw hK hc i pins s σ H E I hf ⟨⟨old, he⟩, hit, hne, hea⟩ ⟨xs, hq, hx⟩
    subst hP hw hK
    obtain ⟨its, rv, p, hz⟩ := I.tuple hq
    obtain ⟨f0, f1, f2, f3, f4, f5⟩ := hf it (by simp)
    have hl := rv.length
    have hno : its.toArray[i]? = none := by simp; omega
    have hT : s.TypeIs (.ref e) "enumerate" := ⟨_, he, rfl⟩
    unfold pyNext
    refine wpAny_bind (wpAny_attempt (wpAny_callSpecial?_slot (name := Str.ofString "__next__") hT F.slot_enumerate_next
      (wpAny_call_entry F.slot_enumerate_next hT F.entry_enumerate_next ?_ (F.args_enumerate_next_1 _))))
    show wpAny _ _ (field (.ref e) 2 >>= _) _ _ _
    refine wpAny_bind (wpAny_field he rfl (x := .ref it) rfl ?_)
    refine wpAny_bind (RZ.nextOf_tuple_end (I.ok.hd hc) hit p hno fun h' x he' ⟨o, ho, hc'⟩ => ?_)
    refine wpAny_bind (wpAny_isInstance (T := "StopIteration") (b := true) ⟨o, ho, hc'⟩ isSubtype_stop ?_)
    exact wpAny_pure ⟨rfl, I.turned (t' := s.toks) (fun b o hb q => he' b o hb q) f0 f1 f3 f4 f5⟩
  self := fun A i s Q E ⟨⟨_, he⟩, _⟩ h => wpAny_pyIter_enum he h
set_option maxHeartbeats 8000000 in
theorem meets_enumB1 {v : Value} {o : Obj} {H : Heap → Prop} (B : Begins v o H) :
    Meets (Builtin.«enumerate.__new__» ⟨[.type "enumerate", v], []⟩) (fun _ R s => H s.heap ∧
      R (.ok (.ret (.ref (s.heap.push o).objs.size))) { s with heap := (s.heap.push o).push { cls := .type "enumerate", data := .fields #[.none, .bool false, .ref s.heap.objs.size, rawInt 0, .none, .none] } }) :=
  .of_wp fun prog w A R ⟨hp, g, d, tk, os⟩ ⟨h1, h⟩ => by
    have hsub := sub_enumerate
    have q1 : ∀ {A' : Around} {E : Value → Shared → Prop} {Q : Value → Shared → Prop}, Q (.ref hp.objs.size) ⟨hp.push o, g, d, tk, os⟩ → wpAny (model prog w) A' (pyIter v) Q E ⟨hp, g, d, tk, os⟩ :=
      fun q => B.iter prog w _ _ ⟨hp, g, d, tk, os⟩ _ h1 q
    wp_walk using q1
    refine wpAny_stack_any fun st => wpAny_pure ?_
    split
    · rename_i c _ _ _ _ _
      cases (c == Value.type "enumerate") <;> (wp_walk using q1; exact ⟨_, rfl, h⟩)
    · wp_walk using q1
      exact ⟨_, rfl, h⟩
def iEnumT (K : PySem.W.Frag) (ta : TA) : TI := fun σ H R => ta σ H fun vs H1 => ∃ a xs, vs = [.ref a] ∧ SqT K H1 a xs ∧ R (IteT K a) H1
theorem pi_enumT {X : Cx} {e : Expr} {ta : TA} {p pos tpos : Pos} {elts : List Expr} {kk : Nat} (hg : Gl X "enumerate") (hm : X.mg "enumerate" = none) (ha : PA X [e] ta) (hs : starEach [e] X.env = [(false, eval e X.env)] := by rfl) :
    PI X (.Tuple elts kk tpos) (.Call (.Name "enumerate" p) [e] [] pos) (iEnumT X.K ta) := by
  refine ⟨fun pins s σ H R I h => ?_⟩
  refine Call_ (ld_blt I hg hm boot_enumerate (PyProof.Rows.callWith_type1 (thn (ha.run pos pins s σ H _ I h) fun us s1 ⟨vs, H1, I1, r1, q1⟩ => ?_) hs rfl))
  obtain ⟨a, xs, rfl, hq, q⟩ := q1
  obtain ⟨u, rfl, ru⟩ := vals1 r1
  obtain rfl : u = Value.ref a := ru
  obtain ⟨its, rv, p', hz⟩ := I1.tuple hq
  have hT : s1.heap.IsTuple a its.toArray := p'
  refine callType_new F.called_enumerate (by decide) (F.typeCall_enumerate_1 _) (F.newCall_enumerate_1 _) (fun obj => F.args_object_init_2 obj _) F.entry_enumerate_new (meets_enumB1 (begins_tuple a its.toArray)) ⟨hT, ?_⟩
  have sz : (s1.heap.push { cls := .type "tuple_iterator", data := .fields #[.ref a, .int 0 0] }).objs.size = s1.heap.objs.size + 1 := Heap.size_push ..
  have he : IsEnum ((s1.heap.push { cls := .type "tuple_iterator", data := .fields #[.ref a, .int 0 0] }).push { cls := .type "enumerate", data := .fields #[.none, .bool false, .ref s1.heap.objs.size, rawInt 0, .none, .none] }) (s1.heap.objs.size + 1) s1.heap.objs.size 0 .none := by
    have := Heap.get?_push_size (s1.heap.push { cls := .type "tuple_iterator", data := .fields #[.ref a, .int 0 0] }) (o := { cls := .type "enumerate", data := .fields #[.none, .bool false, .ref s1.heap.objs.size, rawInt 0, .none, .none] }) rfl
    rw [sz] at this
    exact this
  show _ ∧ _
  rw [sz]
  refine ⟨⟨_, he, rfl⟩, wpAny_pyIter_enum (s := { s1 with heap := _ }) he ?_⟩
  have la : a < s1.heap.objs.size := by
    obtain ⟨o, ho, _⟩ := hT
    exact Heap.lt_size ho
  refine ⟨s1.heap.objs.size + 1, [s1.heap.objs.size + 1, s1.heap.objs.size], _, _, H1, rfl, I1.kept (t' := s1.toks) fun b ob q => Heap.get?_push_of_some _ (Heap.get?_push_of_some _ q), turn_enumT a (s1.heap.objs.size + 1) s1.heap.objs.size,
    ⟨⟨.none, he⟩, ⟨_, Heap.get?_push_of_some _ (Heap.get?_push_size _ rfl), rfl, rfl⟩, Nat.succ_ne_self _, Nat.ne_of_gt (Nat.lt_succ_of_lt la)⟩, fun b hb => ?_, q⟩
  have le : s1.heap.objs.size ≤ b := by
    rcases two_mem hb with z | z <;> subst z
    · exact Nat.le_succ _
    · exact Nat.le_refl _
  exact I1.fpOk le (I1.hok.fresh le)
theorem walk_enumT {K : PySem.W.Frag} {a : Addr} {xs : List V} : Walk (IteT K a) xs.length (fun H => SqT K H a xs) (YPair (fun i => some (.int (i : Nat))) (fun i => xs[i]?)) :=
  ⟨fun i _ hi q => ⟨xs, xs[i], q, List.getElem?_eq_getElem hi⟩, fun _ q => ⟨xs, q, Nat.le_refl _⟩, fun i H v H' _ q ⟨T, x, h1, h2, h3, h4⟩ => ⟨T, .int (i : Nat), x, h1, h2, h3, rfl, h4 xs q⟩⟩
theorem walk_zipT {K : PySem.W.Frag} {a b : Addr} {xs ys : List V} {n : Nat} (hn : n = min xs.length ys.length) : Walk (RZ.ItzT K a b) n (fun H => SqT K H a xs ∧ SqT K H b ys) (YPair (fun i => xs[i]?) (fun i => ys[i]?)) :=
  ⟨fun i _ hi q => ⟨xs, ys, xs[i]'(by omega), ys[i]'(by omega), q.1, q.2, List.getElem?_eq_getElem _, List.getElem?_eq_getElem _⟩, fun _ q => ⟨xs, ys, q.1, q.2, by omega⟩, fun i H v H' _ q ⟨T, x, z, h1, h2, h3, h4, h5⟩ => ⟨T, x, z, h1, h2, h3, h4 xs q.1, h5 ys q.2⟩⟩
/-- a list or a tuple, walked -/
def iSeq (K : PySem.W.Frag) (tl : TE) : TI := fun σ H R => tl σ H fun x H1 => ∃ a, x = .ref a ∧ ((∃ xs, SqL K H1 a xs) ∧ R (Itl K a) H1 ∨ (∃ xs, SqT K H1 a xs) ∧ R (Itt K a) H1)
theorem pi_seq {X : Cx} {tg l : Expr} {tl : TE} (hl : PE X l tl) : PI X tg l (iSeq X.K tl) := by
  refine ⟨fun pins s σ H R I h => thn (hl.run pins s σ H _ I h) fun v s1 ⟨x, H1, I1, r1, a, e, q⟩ => ?_⟩
  subst e
  cases r1
  have new : ∀ b ∈ [s1.heap.objs.size], FpOk X pins H1 b := fun b hb => by
    rw [List.mem_singleton.mp hb]
    exact I1.fpOk (Nat.le_refl _) (I1.hok.fresh (Nat.le_refl _))
  rcases q with ⟨⟨xs, hq⟩, q⟩ | ⟨⟨xs, hq⟩, q⟩
  · obtain ⟨its, rv, p, hz⟩ := I1.list hq
    exact wpAny_pyIter_list p.isList ⟨s1.heap.objs.size, _, _, _, H1, rfl, I1.kept (t' := s1.toks) fun b o e => Heap.get?_push_of_some _ e, turn_list a _, ⟨_, Heap.get?_push_size _ rfl, rfl, rfl⟩, new, q⟩
  · obtain ⟨its, rv, p, hz⟩ := I1.tuple hq
    exact wpAny_pyIter_tuple (show s1.heap.IsTuple a its.toArray from p) ⟨s1.heap.objs.size, _, _, _, H1, rfl, I1.kept (t' := s1.toks) fun b o e => Heap.get?_push_of_some _ e, turn_tuple a _, ⟨_, Heap.get?_push_size _ rfl, rfl, rfl⟩, new, q⟩
end Wb
namespace Wv
open PySem PySem.Spec PyProof.Rows L2 Wb
section
variable {K : PySem.W.Frag} {σ : L2.St} {B B' : Hp} {ta tb te tl : TE} {tt tu : TT} {R S T U : Rel} {Rs : List Rel} {x v : V}
theorem Di.zipT {ta : TA} {Ss : List Rel} [m : MoA Rs] [m' : MoA Ss] (hm : ∀ R ∈ Rs, Mo R) (hm' : ∀ R ∈ Ss, Mo R) (h : Da ta σ B [tupR K Rs, tupR K Ss]) : Di (RZ.iZipA K ta) σ B ((Rs.zip Ss).map fun p => tupR K [p.1, p.2]) := fun B1 H s1 s2 Q q => h B1 H s1 s2 _ fun vs B2 H2 e hv => by
  obtain ⟨v, r, rfl, ⟨a, xs, rfl, hs, hR⟩, v', r', rfl, ⟨b, ys, rfl, hs', hR'⟩, h5⟩ := hv
  have h5 : r' = [] := h5
  subst h5
  refine ⟨a, b, xs, ys, rfl, .inr ⟨seqT e.bh hs, seqT e.bh hs', q _ B2 H2 e ?_⟩⟩
  have len := allR_len hR
  have len' := allR_len hR'
  unfold Wk
  rw [List.length_map]
  refine (walk_zipT (K := K) (a := a) (b := b) (xs := xs) (ys := ys) (n := (Rs.zip Ss).length) (by rw [List.length_zip, len, len'])).mono (fun H' s => ⟨seqT s hs, seqT s hs'⟩) fun i H' x H'' hi s y => ?_
  obtain ⟨p, u, w, rfl, hp, rfl, hu, hw⟩ := y
  have hu : xs[i]? = some u := hu
  have hw : ys[i]? = some w := hw
  obtain ⟨R, hR1, _⟩ := allR_at hR hu
  obtain ⟨S, hS1, _⟩ := allR_at hR' hw
  refine ⟨tupR K [R, S], ?_, fun Bc sc sh => ?_⟩
  · rw [List.getElem?_map, List.getElem?_zip_eq_some (z := (R, S)) |>.mpr ⟨hR1, hS1⟩]
    rfl
  · have := hm R (List.mem_of_getElem? hR1)
    have := hm' S (List.mem_of_getElem? hS1)
    obtain ⟨v1, hv1, q1⟩ := allR_of (m.mo sc hR) hR1
    obtain ⟨v2, hv2, q2⟩ := allR_of (m'.mo sc hR') hS1
    rw [hu] at hv1
    rw [hw] at hv2
    cases hv1
    cases hv2
    exact pair_new sh hp q1 q2
theorem Di.enumT {ta : TA} [m : MoA Rs] (hm : ∀ R ∈ Rs, Mo R) (h : Da ta σ B [tupR K Rs]) : Di (iEnumT K ta) σ B (Rs.zipIdx.map fun p => tupR K [dat K (.int (p.2 : Int)), p.1]) := fun B1 H s1 s2 Q q => h B1 H s1 s2 _ fun vs B2 H2 e hv => by
  obtain ⟨v, r, rfl, ⟨a, xs, rfl, hs, hR⟩, h5⟩ := hv
  have h5 : r = [] := h5
  subst h5
  refine ⟨a, xs, rfl, seqT e.bh hs, q _ B2 H2 e ?_⟩
  have len := allR_len hR
  unfold Wk
  rw [List.length_map, List.length_zipIdx, ← len]
  refine (walk_enumT (K := K) (a := a) (xs := xs)).mono (fun H' s => seqT s hs) fun i H' x H'' hi s y => ?_
  obtain ⟨p, u, w, rfl, hp, rfl, hu, hw⟩ := y
  cases hu
  have hw : xs[i]? = some w := hw
  obtain ⟨R, hR1, _⟩ := allR_at hR hw
  refine ⟨tupR K [dat K (.int (i : Int)), R], ?_, fun Bc sc sh => ?_⟩
  · rw [List.getElem?_map, List.getElem?_zipIdx, hR1]
    simp
  · have := hm R (List.mem_of_getElem? hR1)
    obtain ⟨v1, hv1, q1⟩ := allR_of (m.mo sc hR) hR1
    rw [hw] at hv1
    cases hv1
    exact pair_new sh hp (Dp.int _) q1
/-- of data that stands for things -/
theorem mo_dats {α : Type} {as : List α} {f : α → PyData} : ∀ R ∈ as.map (fun a => dat K (f a)), Mo R := fun R h => by
  obtain ⟨a, _, rfl⟩ := List.mem_map.mp h
  exact inferInstance
theorem mos_dats {α : Type} {as : List α} {f : α → PyData} : MoA (as.map fun a => dat K (f a)) := moA_of mo_dats
theorem dat_tupM {α : Type} {as : List α} {f : α → PyData} {B : Hp} {v : V} (h : dat K (.tuple (as.map f)) B v) : tupR K (as.map fun a => dat K (f a)) B v := by
  have := dat_tupR h
  rw [List.map_map] at this
  exact this
theorem Di.zipTM {α β : Type} {as : List α} {bs : List β} {f : α → PyData} {g : β → PyData} {ta tb : TE} (h : De ta σ B (dat K (.tuple (as.map f)))) (h2 : De tb σ B (dat K (.tuple (bs.map g)))) :
    Di (RZ.iZipA K (tCons ta (tCons tb tNil))) σ B ((as.zip bs).map fun p => tupR K [dat K (f p.1), dat K (g p.2)]) := by
  have : MoA (as.map fun a => dat K (f a)) := mos_dats
  have : MoA (bs.map fun a => dat K (g a)) := mos_dats
  have i1 : Mo (tupR K (as.map fun a => dat K (f a))) := inferInstance
  have := Di.zipT (K := K) (Rs := as.map fun a => dat K (f a)) (Ss := bs.map fun a => dat K (g a)) mo_dats mo_dats (.cons (h.conv fun _ _ => dat_tupM) (.cons (h2.conv fun _ _ => dat_tupM) .nil))
  rw [List.zip_map, List.map_map] at this
  exact this
theorem Di.enumTM {α : Type} {as : List α} {f : α → PyData} {ta : TE} (h : De ta σ B (dat K (.tuple (as.map f)))) : Di (iEnumT K (tCons ta tNil)) σ B (as.zipIdx.map fun p => tupR K [dat K (.int (p.2 : Int)), dat K (f p.1)]) := by
  have : MoA (as.map fun a => dat K (f a)) := mos_dats
  have := Di.enumT (K := K) (Rs := as.map fun a => dat K (f a)) mo_dats (.cons (h.conv fun _ _ => dat_tupM) .nil)
  rw [List.zipIdx_map, List.map_map] at this
  exact this
end
/-! ### promises by their arguments -/
section
variable {α : Type} {args : α → List Rel} {R R1 R2 R3 : α → Rel} {pre : α → Prop} {res : α → Rel} {vs : List V} {H : Hp} {Q : VK} {E : XK}
theorem pf_len (h : Pf args pre res vs H Q E) {m : Nat} (n : ∀ a, (args a).length = m) : vs.length = m := by
  obtain ⟨B, a, _, h, _⟩ := h
  rw [allR_len h, n]
theorem pf1 (h : Pf (fun a => [R a]) pre res vs H Q E) : ∃ v B a, vs = [v] ∧ Same B H ∧ R a B v ∧ pre a ∧ ∀ v B' H', Ext B H B' H' → res a B' v → Q v H' := by
  obtain ⟨B, a, s, ⟨v, r, rfl, h1, h⟩, p, k⟩ := h
  have h : r = [] := h
  subst h
  exact ⟨v, B, a, rfl, s, h1, p, k⟩
theorem pf2 (h : Pf (fun a => [R a, R1 a]) pre res vs H Q E) : ∃ v v1 B a, vs = [v, v1] ∧ Same B H ∧ R a B v ∧ R1 a B v1 ∧ pre a ∧ ∀ v B' H', Ext B H B' H' → res a B' v → Q v H' := by
  obtain ⟨B, a, s, ⟨v, r, rfl, h1, v1, r1, rfl, h2, h⟩, p, k⟩ := h
  have h : r1 = [] := h
  subst h
  exact ⟨v, v1, B, a, rfl, s, h1, h2, p, k⟩
theorem pf3 (h : Pf (fun a => [R a, R1 a, R2 a]) pre res vs H Q E) : ∃ v v1 v2 B a, vs = [v, v1, v2] ∧ Same B H ∧ R a B v ∧ R1 a B v1 ∧ R2 a B v2 ∧ pre a ∧ ∀ v B' H', Ext B H B' H' → res a B' v → Q v H' := by
  obtain ⟨B, a, s, ⟨v, r, rfl, h1, v1, r1, rfl, h2, v2, r2, rfl, h3, h⟩, p, k⟩ := h
  have h : r2 = [] := h
  subst h
  exact ⟨v, v1, v2, B, a, rfl, s, h1, h2, h3, p, k⟩
theorem pf4 (h : Pf (fun a => [R a, R1 a, R2 a, R3 a]) pre res vs H Q E) : ∃ v v1 v2 v3 B a, vs = [v, v1, v2, v3] ∧ Same B H ∧ R a B v ∧ R1 a B v1 ∧ R2 a B v2 ∧ R3 a B v3 ∧ pre a ∧ ∀ v B' H', Ext B H B' H' → res a B' v → Q v H' := by
  obtain ⟨B, a, s, ⟨v, r, rfl, h1, v1, r1, rfl, h2, v2, r2, rfl, h3, v3, r3, rfl, h4, h⟩, p, k⟩ := h
  have h : r3 = [] := h
  subst h
  exact ⟨v, v1, v2, v3, B, a, rfl, s, h1, h2, h3, h4, p, k⟩
end
end Wv

set_option Elab.async false
set_option linter.all false
set_option maxRecDepth 100000
set_option maxHeartbeats 4000000
/-! Wv4: statements, by what is evaluated. -/
theorem L2.Room.u65 {k : Nat} {A : PySem.Around} (h : L2.Room k A) : A.units + 65 < PySem.cLine := by
  have := h.un
  omega
namespace Wv
open PySem PySem.Spec PyProof.Rows L2 Wb
section
variable {K : PySem.W.Frag} {σ : L2.St} {B H : Hp} {ta tb te tl : TE} {tt tu : TT} {R S T U : Rel} {Rs : List Rel} {D : Ends} {t u rest : TS} {i j : Nat}
theorem s_set (h : De te σ B R) (hB : Same B H) (k : ∀ v B' H', Ext B H B' H' → R B' v → rest D (σ.set i (some v)) H') : tSeq (tAsg te (gName i)) rest D σ H := h B H (Same.refl _) hB _ k
theorem s_setE (h : De te σ B R) (hB : Same B H) (k : ∀ v B' H', Ext B H B' H' → R B' v → D.nx (σ.set i (some v)) H') : tAsg te (gName i) D σ H := h B H (Same.refl _) hB _ k
theorem s_ret (h : De te σ B R) (hB : Same B H) (k : ∀ v B' H', Ext B H B' H' → R B' v → D.rt v H') : tRet te D σ H := h B H (Same.refl _) hB _ k
theorem s_if {b : Bool} (h : Dt tt σ B b) (hB : Same B H) (k1 : b = true → ∀ B' H', Ext B H B' H' → t D σ H') (k2 : b = false → ∀ B' H', Ext B H B' H' → u D σ H') : tIfS tt t u D σ H := h B H (Same.refl _) hB _ fun B' H' e => by
  cases b with
  | true => exact k1 rfl B' H' e
  | false => exact k2 rfl B' H' e
theorem s_ifS {b : Bool} (h : Dt tt σ B b) (hB : Same B H) (k1 : b = true → ∀ B' H', Ext B H B' H' → t { D with nx := rest D } σ H') (k2 : b = false → ∀ B' H', Ext B H B' H' → u { D with nx := rest D } σ H') : tSeq (tIfS tt t u) rest D σ H := s_if (D := { D with nx := rest D }) h hB k1 k2
/-- a test that is not met: on it goes -/
theorem s_skip (h : Dt tt σ B false) (hB : Same B H) (k : ∀ B' H', Ext B H B' H' → rest D σ H') : tSeq (tIfS tt t tNext) rest D σ H := s_ifS h hB (fun z => nomatch z) fun _ => k
theorem s_par {ta : TA} {S : Rel} (h : Da ta σ B [R, S]) (hB : Same B H) (k : ∀ u v B' H', Ext B H B' H' → R B' u → S B' v → rest D ((σ.set i (some u)).set j (some v)) H') : tSeq (tPar i j ta) rest D σ H := h B H (Same.refl _) hB _ fun vs B' H' e hv => by
  obtain ⟨a, r, rfl, h1, b, r', rfl, h2, h3⟩ := hv
  have h3 : r' = [] := h3
  subst h3
  exact ⟨a, b, rfl, k a b B' H' e h1 h2⟩
theorem Rv.mulS3 {a : Nat} : Rv rMulS B (dat K (.str ⟨#[a]⟩)) (dat K (.int 3)) (dat K (.str (mulS ⟨#[a]⟩ 3))) := fun x y B1 H1 _ s2 hx hy Q q => ⟨_, 3, dat_str hx, dat_int hy, by decide, by decide, Nat.zero_lt_one, by show 1 ≤ 1000; decide, q _ B1 H1 (.refl s2) (.str _)⟩
theorem De.negI {n : Int} (h : De te σ B (dat K (.int n))) : De (tUn (rU fun i => .int (-i)) te) σ B (dat K (.int (-n))) := .un h fun x B1 H1 _ s2 hx Q q => ⟨n, dat_int hx, q _ B1 H1 (.refl s2) (.int _)⟩
theorem Di.seqL {ds : List PyData} (h : De tl σ B (dat K (.list ds))) : Di (iSeq K tl) σ B (ds.map (dat K)) := fun B1 H s1 s2 Q q => h B1 H s1 s2 _ fun v B2 H2 e hv => by
  have q2 := Di.listD (K := K) (De.var (i := 0) (σ := [some v]) hv rfl) B2 H2 (Same.refl _) e.bh Q fun J B3 H3 e3 hw => q J B3 H3 (e.trans e3) hw
  obtain ⟨x, hx, a, ha, hs, r⟩ := q2
  cases hx
  exact ⟨a, ha, .inl ⟨hs, r⟩⟩
theorem Di.seqT {ds : List PyData} (h : De tl σ B (dat K (.tuple ds))) : Di (iSeq K tl) σ B (ds.map (dat K)) := fun B1 H s1 s2 Q q => h B1 H s1 s2 _ fun v B2 H2 e hv => by
  have q2 := Di.tupD (K := K) (De.var (i := 0) (σ := [some v]) hv rfl) B2 H2 (Same.refl _) e.bh Q fun J B3 H3 e3 hw => q J B3 H3 (e.trans e3) hw
  obtain ⟨x, hx, a, ha, hs, r⟩ := q2
  cases hx
  exact ⟨a, ha, .inr ⟨hs, r⟩⟩
abbrev rTup (K : PySem.W.Frag) : List V → Hp → VK → Prop := fun xs H Q => ∃ p ys, xs = [.ref p] ∧ ((SqL K H p ys ∧ ∀ l, H l = none → Q (.ref l) (upd H l (.tup ys))) ∨ (SqT K H p ys ∧ Q (.ref p) H))
abbrev rLst (K : PySem.W.Frag) : List V → Hp → VK → Prop := fun xs H Q => ∃ p ys, xs = [.ref p] ∧ (SqL K H p ys ∨ SqT K H p ys) ∧ ∀ l, H l = none → Q (.ref l) (upd H l (.lst ys))
abbrev rLen (K : PySem.W.Frag) : List V → Hp → VK → Prop := fun xs H Q => ∃ x n, xs = [x] ∧ LenV K x H n ∧ Q (.int n) H
/-- what is wanted behind a turn -/
def Nz (B H : Hp) (P : L2.St → Hp → Prop) : L2.St → Hp → Prop := fun σ H' => ∃ B', Ext B H B' H' ∧ P σ B'
theorem s_forE {wi : TI} {g : TG} {ts : TS} (hi : Di wi σ B Rs) (hB : Same B H) (Pv : Nat → L2.St → Hp → Prop) (h0 : ∀ B', Same B B' → Pv 0 σ B')
    (hs : ∀ B1 H1, Ext B H B1 H1 → ∀ i R v σ' Bc Bn Hn, Rs[i]? = some R → Pv i σ' Bc → Same Bc Bn → Ext B1 H1 Bn Hn → R Bn v → g v σ' Hn fun σ2 H2 => ts { D with nx := Nz B1 H1 (Pv (i + 1)), ct := Nz B1 H1 (Pv (i + 1)), bk := D.nx } σ2 H2)
    (hd : ∀ σ' B' H', Ext B H B' H' → Pv Rs.length σ' B' → D.nx σ' H') : tFor wi g ts D σ H :=
  hi B H (Same.refl _) hB _ fun J B1 H1 e hw => for_it hw (fun i => Nz B1 H1 (Pv i)) ⟨B1, .refl e.bh, h0 B1 e.bb⟩ (fun i σ' H' _ ⟨B', s1, _⟩ => s1.bb.trans s1.bh)
    (fun i x σ' H' H'' hi ⟨Bc, s1, p⟩ ⟨R, hR, y⟩ => by
      obtain ⟨Bn, e2, hx⟩ := y Bc s1.bb s1.bh
      exact hs B1 H1 e i R x σ' Bc Bn H'' hR p e2.bb (s1.trans e2) hx)
    (fun σ' H' ⟨B', s1, p⟩ => hd σ' B' H' (e.trans s1) p)
theorem s_forS {wi : TI} {g : TG} {ts : TS} (hi : Di wi σ B Rs) (hB : Same B H) (Pv : Nat → L2.St → Hp → Prop) (h0 : ∀ B', Same B B' → Pv 0 σ B')
    (hs : ∀ B1 H1, Ext B H B1 H1 → ∀ i R v σ' Bc Bn Hn, Rs[i]? = some R → Pv i σ' Bc → Same Bc Bn → Ext B1 H1 Bn Hn → R Bn v → g v σ' Hn fun σ2 H2 => ts { D with nx := Nz B1 H1 (Pv (i + 1)), ct := Nz B1 H1 (Pv (i + 1)), bk := rest D } σ2 H2)
    (hd : ∀ σ' B' H', Ext B H B' H' → Pv Rs.length σ' B' → rest D σ' H') : tSeq (tFor wi g ts) rest D σ H := s_forE (D := { D with nx := rest D }) hi hB Pv h0 hs hd
end
end Wv

set_option Elab.async false
set_option linter.all false
set_option maxRecDepth 100000
set_option maxHeartbeats 4000000
/-! Wv5: what is evaluated while a deal goes on: a base that leaves the deal's two lists out. -/
namespace Wv
open PySem PySem.Spec PyProof.Rows L2 Wb
/-- the deal at d and c, a base that has neither -/
structure Dl (B H : Hp) (d c : Addr) : Prop where
  deal : Deal H d c
  sub : Same B (off H d c)
theorem Dl.bh {B H : Hp} {d c : Addr} (L : Dl B H d c) : Same B H := L.sub.trans (off_le H d c)
theorem Dl.noD {B H : Hp} {d c : Addr} (L : Dl B H d c) : B d = none := by
  cases h : B d with
  | none => rfl
  | some o => exact absurd rfl (off_some (L.sub _ _ h)).2.1
theorem Dl.noC {B H : Hp} {d c : Addr} (L : Dl B H d c) : B c = none := by
  cases h : B c with
  | none => rfl
  | some o => exact absurd rfl (off_some (L.sub _ _ h)).2.2
theorem Deal.atD {H : Hp} {d c : Addr} (D : Deal H d c) : H d ≠ none ∧ H c ≠ none := by
  obtain ⟨cs, mix, h1, h2, _⟩ := D.ex
  rw [h1, h2]
  exact ⟨Option.some_ne_none _, Option.some_ne_none _⟩
/-- later: the deal may have been drawn from, all else is kept -/
structure ExtD (d c : Addr) (B H B' H' : Hp) : Prop where
  deal : Deal H' d c
  oo : Same (off H d c) (off H' d c)
  bb : Same B B'
  sub : Same B' (off H' d c)
  nw : ∀ b, H b ≠ none → B b = none → B' b = none
theorem ExtD.dl {d c : Addr} {B H B' H' : Hp} (e : ExtD d c B H B' H') : Dl B' H' d c := ⟨e.deal, e.sub⟩
theorem ExtD.bh {d c : Addr} {B H B' H' : Hp} (e : ExtD d c B H B' H') : Same B' H' := e.dl.bh
theorem ExtD.refl {d c : Addr} {B H : Hp} (L : Dl B H d c) : ExtD d c B H B H := ⟨L.deal, Same.refl _, Same.refl _, L.sub, fun _ _ h => h⟩
theorem ExtD.trans {d c : Addr} {B H B1 H1 B2 H2 : Hp} (D : Dl B H d c) (a : ExtD d c B H B1 H1) (b : ExtD d c B1 H1 B2 H2) : ExtD d c B H B2 H2 :=
  ⟨b.deal, a.oo.trans b.oo, a.bb.trans b.bb, b.sub, fun x h1 h2 => by
    refine b.nw x ?_ (a.nw x h1 h2)
    by_cases e1 : x = d
    · rw [e1]
      exact (Deal.atD a.deal).1
    · by_cases e2 : x = c
      · rw [e2]
        exact (Deal.atD a.deal).2
      · cases h : H x with
        | none => exact absurd h h1
        | some o =>
          rw [(off_some (a.oo x o ((off_at e1 e2).trans h))).1]
          exact fun z => nomatch z⟩
theorem ExtD.of {d c : Addr} {B H B' H' : Hp} (L : Dl B H d c) (e : Ext B H B' H') : ExtD d c B H B' H' :=
  ⟨L.deal.same e.hh, off_mono e.hh, e.bb, fun b o h => by
    have at_ := Deal.atD L.deal
    have n1 : b ≠ d := fun z => by rw [z, e.nw d at_.1 L.noD] at h; cases h
    have n2 : b ≠ c := fun z => by rw [z, e.nw c at_.2 L.noC] at h; cases h
    rw [off_at n1 n2]
    exact e.bh b o h, e.nw⟩
theorem ExtD.draw {d c : Addr} {B H H' : Hp} (L : Dl B H d c) (D : Deal H' d c) (S : Same (off H d c) (off H' d c)) : ExtD d c B H B H' := ⟨D, S, Same.refl _, L.sub.trans S, fun _ _ h => h⟩
/-- what is neither of the deal's lists is kept -/
theorem ExtD.keep {d c a : Addr} {o : HO} {B H B' H' : Hp} (e : ExtD d c B H B' H') (h : H a = some o) (n1 : a ≠ d) (n2 : a ≠ c) : H' a = some o := (off_some (e.oo a o ((off_at n1 n2).trans h))).1
theorem deal_upd0 {H : Hp} {d c L : Addr} {o : HO} (D : Deal H d c) (n1 : L ≠ d) (n2 : L ≠ c) : Deal (upd H L o) d c := by
  obtain ⟨cs, mix, h1, h2, r⟩ := D.ex
  exact ⟨cs, mix, (upd_ne n1.symm).trans h1, (upd_ne n2.symm).trans h2, r⟩
/-- a list that is made by and by: hidden from the base -/
structure Ml (d c : Addr) (B H : Hp) (L : Addr) (xs : List V) : Prop where
  at_ : H L = some (.lst xs)
  no : B L = none
  nd : L ≠ d
  nc : L ≠ c
theorem Ml.ext {d c L : Addr} {B H B' H' : Hp} {xs : List V} (m : Ml d c B H L xs) (e : ExtD d c B H B' H') : Ml d c B' H' L xs :=
  ⟨e.keep m.at_ m.nd m.nc, e.nw L (by rw [m.at_]; exact fun z => nomatch z) m.no, m.nd, m.nc⟩
theorem Ml.new {d c L : Addr} {B H : Hp} {xs : List V} (D : Dl B H d c) (h : H L = none) : Ml d c B (upd H L (.lst xs)) L xs ∧ ExtD d c B H B (upd H L (.lst xs)) :=
  ⟨⟨upd_same, D.bh.free h, (D.deal.free h).1, (D.deal.free h).2⟩, .of D (.own D.bh h)⟩
theorem Ml.set {d c L : Addr} {B H : Hp} {xs ys : List V} (D : Dl B H d c) (m : Ml d c B H L xs) : Ml d c B (upd H L (.lst ys)) L ys ∧ Dl B (upd H L (.lst ys)) d c :=
  ⟨⟨upd_same, m.no, m.nd, m.nc⟩, deal_upd0 D.deal m.nd m.nc, fun b o h => by
    have z : b ≠ L := fun z => by rw [z, m.no] at h; cases h
    obtain ⟨h1, h2, h3⟩ := off_some (D.sub b o h)
    rw [off_at h2 h3, upd_ne z]
    exact h1⟩
section
variable {K : PySem.W.Frag} {σ : L2.St} {B H : Hp} {ta tb te tl : TE} {tt tu : TT} {R S T U : Rel} {Rs : List Rel} {D : Ends} {t u rest : TS} {i j : Nat} {d c : Addr} {Q : VK} {E : XK}
theorem d_ev (L : Dl B H d c) (h : De te σ B R) (k : ∀ v B' H', ExtD d c B H B' H' → R B' v → Q v H') : te σ H Q := h B H (Same.refl _) L.bh Q fun v B' H' e hv => k v B' H' (.of L e) hv
theorem s_raw (h : te σ H fun v H' => rest D (σ.set i (some v)) H') : tSeq (tAsg te (gName i)) rest D σ H := h
theorem s_rawE (h : te σ H fun v H' => D.nx (σ.set i (some v)) H') : tAsg te (gName i) D σ H := h
theorem s_retR (h : te σ H D.rt) : tRet te D σ H := h
theorem s_ifR (h : tt σ H fun b H1 => if b = true then t D σ H1 else u D σ H1) : tIfS tt t u D σ H := h
theorem s_ifSR (h : tt σ H fun b H1 => if b = true then t { D with nx := rest D } σ H1 else u { D with nx := rest D } σ H1) : tSeq (tIfS tt t u) rest D σ H := h
theorem r_op {r : R2} (h : ta σ H fun x H1 => tb σ H1 fun y H2 => r x y H2 Q) : tOp r ta tb σ H Q := h
theorem s_parR (h : ta σ H fun x H1 => tb σ H1 fun y H2 => rest D ((σ.set i (some x)).set j (some y)) H2) : tSeq (tPar i j (tCons ta (tCons tb tNil))) rest D σ H := by
  show ta σ H fun x H1 => tb σ H1 fun y H2 => ∃ v w, [x, y] = [v, w] ∧ rest D ((σ.set i (some v)).set j (some w)) H2
  have e : (fun x H1 => tb σ H1 fun y H2 => ∃ v w, [x, y] = [v, w] ∧ rest D ((σ.set i (some v)).set j (some w)) H2) = fun x H1 => tb σ H1 fun y H2 => rest D ((σ.set i (some x)).set j (some y)) H2 := by
    funext x H1
    congr 1
    funext y H2
    apply propext
    constructor
    · rintro ⟨v, w, h, q⟩
      cases h
      exact q
    · exact fun q => ⟨_, _, rfl, q⟩
  rw [e]
  exact h
theorem c_any {n : Int} (L : Dl B H d c) (hd : σ[i]? = some (some (.ref d))) (hn : De te σ B (dat K (.int n))) (n0 : 0 < n) (n1 : n < 2 ^ 300) (k : ∀ r B' H', 0 ≤ r → r < n → ExtD d c B H B' H' → Q (.int r) H') :
    tCall spAny [] E (tCons (tVar i) (tCons te tNil)) σ H Q :=
  ⟨.ref d, hd, d_ev L hn fun v B' H' e hv => ⟨d, c, n, by rw [dat_int hv]; rfl, e.deal, n0, n1, fun r H2 r0 r1 D2 S2 => k r B' H2 r0 r1 (.trans L e (.draw e.dl D2 S2))⟩⟩
theorem c_ofL {ds : List PyData} (L : Dl B H d c) (hd : σ[i]? = some (some (.ref d))) (hn : De te σ B (dat K (.list ds))) (ne : ds ≠ []) (few : ds.length ≤ 1000) (k : ∀ x v B' H', x ∈ ds → ExtD d c B H B' H' → dat K x B' v → Q v H') :
    tCall (spOf K) [] E (tCons (tVar i) (tCons te tNil)) σ H Q :=
  ⟨.ref d, hd, d_ev L hn fun v B' H' e hv => by
    obtain ⟨p, xs, rfl, hs, hR⟩ := dat_lstR hv
    have len := allR_len hR
    rw [List.length_map] at len
    refine ⟨d, c, .ref p, rfl, e.deal, .inl ⟨p, xs, rfl, e.sub.seq hs, fun z => ne (List.eq_nil_of_length_eq_zero (by rw [← len, z]; rfl)), by omega, fun v H2 hv D2 S2 => ?_⟩⟩
    obtain ⟨m, hm, hme⟩ := List.mem_iff_getElem.mp hv
    obtain ⟨R, hR1, hR2⟩ := allR_at hR (List.getElem?_eq_getElem hm)
    rw [List.getElem?_map] at hR1
    obtain ⟨x, hx, rfl⟩ := Option.map_eq_some_iff.mp hR1
    rw [hme] at hR2
    exact k x v B' H2 (List.mem_of_getElem? hx) (.trans L e (.draw e.dl D2 S2)) hR2⟩
theorem c_ofT {ds : List PyData} (L : Dl B H d c) (hd : σ[i]? = some (some (.ref d))) (hn : De te σ B (dat K (.tuple ds))) (ne : ds ≠ []) (few : ds.length ≤ 1000) (k : ∀ x v B' H', x ∈ ds → ExtD d c B H B' H' → dat K x B' v → Q v H') :
    tCall (spOf K) [] E (tCons (tVar i) (tCons te tNil)) σ H Q :=
  ⟨.ref d, hd, d_ev L hn fun v B' H' e hv => by
    obtain ⟨p, xs, rfl, hs, hR⟩ := dat_tupR hv
    have len := allR_len hR
    rw [List.length_map] at len
    refine ⟨d, c, .ref p, rfl, e.deal, .inr (.inl ⟨p, xs, rfl, seqT e.sub hs, fun z => ne (List.eq_nil_of_length_eq_zero (by rw [← len, z]; rfl)), by omega, fun v H2 hv D2 S2 => ?_⟩)⟩
    obtain ⟨m, hm, hme⟩ := List.mem_iff_getElem.mp hv
    obtain ⟨R, hR1, hR2⟩ := allR_at hR (List.getElem?_eq_getElem hm)
    rw [List.getElem?_map] at hR1
    obtain ⟨x, hx, rfl⟩ := Option.map_eq_some_iff.mp hR1
    rw [hme] at hR2
    exact k x v B' H2 (List.mem_of_getElem? hx) (.trans L e (.draw e.dl D2 S2)) hR2⟩
theorem c_ofS {z : Str} (L : Dl B H d c) (hd : σ[i]? = some (some (.ref d))) (hn : De te σ B (dat K (.str z))) (ne : 0 < z.length) (few : z.length ≤ 1000) (k : ∀ a B' H', a ∈ z.cps.toList → ExtD d c B H B' H' → Q (.str ⟨#[a]⟩) H') :
    tCall (spOf K) [] E (tCons (tVar i) (tCons te tNil)) σ H Q :=
  ⟨.ref d, hd, d_ev L hn fun v B' H' e hv => ⟨d, c, v, rfl, e.deal, .inr (.inr ⟨z, dat_str hv, ne, few, fun a H2 ha D2 S2 => k a B' H2 ha (.trans L e (.draw e.dl D2 S2))⟩)⟩⟩
theorem t_any0 {n : Int} {Q : Bool → Hp → Prop} (L : Dl B H d c) (hd : σ[i]? = some (some (.ref d))) (hn : De te σ B (dat K (.int n))) (n0 : 0 < n) (n1 : n < 2 ^ 300) (k : ∀ b B' H', ExtD d c B H B' H' → Q b H') :
    tTest (tOp rEq (tCall spAny [] E (tCons (tVar i) (tCons te tNil))) (tC (.int 0))) σ H Q :=
  c_any L hd hn n0 n1 fun r B' H' _ _ e => ⟨rfl, _, rfl, k _ B' H' e⟩
/-- what a def is worth that draws -/
def DPf {α : Type} (args : α → List Rel) (pre : α → Prop) (res : α → Rel) : Sp := fun vs H Q _ => ∃ (d c : Addr) (B : Hp) (a : α) (us : List V), vs = .ref d :: us ∧ Dl B H d c ∧ AllR (args a) B us ∧ pre a ∧ ∀ v B' H', ExtD d c B H B' H' → res a B' v → Q v H'
theorem c_def {α : Type} {args : α → List Rel} {pre : α → Prop} {res : α → Rel} {tr : TA} (a : α) (L : Dl B H d c) (hd : σ[i]? = some (some (.ref d))) (ha : Da tr σ B (args a)) (hp : pre a) (k : ∀ v B' H', ExtD d c B H B' H' → res a B' v → Q v H') :
    tCall (DPf args pre res) [] E (tCons (tVar i) tr) σ H Q :=
  ⟨.ref d, hd, ha B H (Same.refl _) L.bh _ fun vs B1 H1 e hv => ⟨d, c, B1, a, vs, by rw [List.append_nil], (ExtD.of L e).dl, hv, hp, fun v B' H' e' hr => k v B' H' (.trans L (.of L e) e') hr⟩⟩
theorem De.slS {z : Str} {tl th : TO} {lo hi : Option Int} (h : De te σ B (dat K (.str z))) (h1 : Do tl σ B lo) (h2 : Do th σ B hi) (hz : z.length ≤ sizeLine) : De (L2.tSl rSlS te tl th) σ B (dat K (.str (cutS z lo hi))) :=
  .sl h h1 h2 fun x B1 H s1 s2 hx Q q => ⟨z, dat_str hx, hz, q _ B1 H (.refl s2) (.str _)⟩
end
theorem dpf_len {α : Type} {args : α → List Rel} {pre : α → Prop} {res : α → Rel} {vs : List V} {H : Hp} {Q : VK} {E : XK} (h : DPf args pre res vs H Q E) {m : Nat} (n : ∀ a, (args a).length + 1 = m) : vs.length = m := by
  obtain ⟨d, c, B, a, us, rfl, _, h, _⟩ := h
  rw [List.length_cons, allR_len h, n]
theorem cutS_mem {z : Str} {lo hi : Option Int} {a : Nat} (h : a ∈ (cutS z lo hi).cps.toList) : a ∈ z.cps.toList := by
  unfold cutS at h
  simp only [List.toList_toArray] at h
  exact List.mem_of_mem_drop (List.mem_of_mem_take h)
end Wv

set_option Elab.async false
set_option linter.all false
set_option maxRecDepth 100000
set_option maxHeartbeats 4000000
/-! Wv6: lists that are made while a deal goes on. -/
namespace Wv
open PySem PySem.Spec PyProof.Rows L2 Wb
section
variable {α : Type} {R R1 R2 : α → Rel} {pre : α → Prop} {res : α → Rel} {vs : List V} {H : Hp} {Q : VK} {E : XK}
theorem dpf0 (h : DPf (fun _ => []) pre res vs H Q E) : ∃ d c B a, vs = [.ref d] ∧ Dl B H d c ∧ pre a ∧ ∀ v B' H', ExtD d c B H B' H' → res a B' v → Q v H' := by
  obtain ⟨d, c, B, a, us, rfl, L, h, p, k⟩ := h
  have h : us = [] := h
  subst h
  exact ⟨d, c, B, a, rfl, L, p, k⟩
theorem dpf1 (h : DPf (fun a => [R a]) pre res vs H Q E) : ∃ d v c B a, vs = [.ref d, v] ∧ Dl B H d c ∧ R a B v ∧ pre a ∧ ∀ v B' H', ExtD d c B H B' H' → res a B' v → Q v H' := by
  obtain ⟨d, c, B, a, us, rfl, L, ⟨v, r, rfl, h1, h⟩, p, k⟩ := h
  have h : r = [] := h
  subst h
  exact ⟨d, v, c, B, a, rfl, L, h1, p, k⟩
theorem dpf2 (h : DPf (fun a => [R a, R1 a]) pre res vs H Q E) : ∃ d v v1 c B a, vs = [.ref d, v, v1] ∧ Dl B H d c ∧ R a B v ∧ R1 a B v1 ∧ pre a ∧ ∀ v B' H', ExtD d c B H B' H' → res a B' v → Q v H' := by
  obtain ⟨d, c, B, a, us, rfl, L, ⟨v, r, rfl, h1, v1, r1, rfl, h2, h⟩, p, k⟩ := h
  have h : r1 = [] := h
  subst h
  exact ⟨d, v, v1, c, B, a, rfl, L, h1, h2, p, k⟩
end
theorem Di.itr {K : PySem.W.Frag} {σ : L2.St} {B : Hp} {lo : Int} {n : Nat} : Di (fun _ H R => R (Itr lo n) H) σ B ((List.range n).map fun i : Nat => dat K (.int (lo + (i : Int)))) := fun B1 H _ s2 Q q => q (Itr lo n) B1 H (.refl s2) wk_ints
theorem ExtD.setL {d c L : Addr} {B H B' H' : Hp} {xs ys : List V} (e : ExtD d c B H B' H') (m : Ml d c B' H' L xs) (h : H L = none) : ExtD d c B H B' (upd H' L (.lst ys)) :=
  ⟨deal_upd0 e.deal m.nd m.nc, fun b o z => by
    obtain ⟨h1, h2, h3⟩ := off_some z
    have n : b ≠ L := fun q => by rw [q, h] at h1; cases h1
    rw [off_at h2 h3, upd_ne n]
    exact (off_some (e.oo b o z)).1, e.bb, (Ml.set e.dl m).2.sub, e.nw⟩
/-- such a list comes into the base -/
theorem ExtD.settle {d c L : Addr} {B H B' H' : Hp} {xs : List V} (e : ExtD d c B H B' H') (m : Ml d c B' H' L xs) (h : H L = none) : ExtD d c B H (upd B' L (.lst xs)) H' :=
  ⟨e.deal, e.oo, e.bb.trans (new_same m.no), fun b o z => by
    by_cases n : b = L
    · subst n
      rw [upd_same] at z
      cases z
      exact (off_at m.nd m.nc).trans m.at_
    · rw [upd_ne n] at z
      exact e.sub b o z, fun b h1 h2 => by
    have n : b ≠ L := fun q => h1 (by rw [q]; exact h)
    rw [upd_ne n]
    exact e.nw b h1 h2⟩
theorem Ml.dat {K : PySem.W.Frag} {d c L : Addr} {B H : Hp} {xs : List V} {out : List PyData} (m : Ml d c B H L xs) (h : AllR (out.map (dat K)) B xs) : Wv.dat K (.list out) (upd B L (.lst xs)) (.ref L) :=
  lstR_dat ⟨L, xs, rfl, SqL.of upd_same, MoA.mo (new_same m.no) h⟩
section
variable {K : PySem.W.Frag} {σ : L2.St} {B H : Hp} {te : TE} {tt : TT} {d c : Addr} {Q : VK}
theorem c_lcD {α : Type} {as : List α} {r : α → Rel} {wi : TI} {g : TG} {vs : List Nat} (L : Dl B H d c) (hi : Di wi σ B (as.map r)) (few : as.length < sizeLine) (Pv : Nat → List PyData → Prop) (h0 : Pv 0 [])
    (hs : ∀ i a v B1 H1 out, as[i]? = some a → Dl B1 H1 d c → Same B B1 → r a B1 v → Pv i out → ∀ (Y : V → Hp → Prop) (N : Hp → Prop), (∀ y B4 H4 x, ExtD d c B1 H1 B4 H4 → dat K x B4 y → Pv (i + 1) (out ++ [x]) → Y y H4) →
      (∀ B4 H4, ExtD d c B1 H1 B4 H4 → Pv (i + 1) out → N H4) → g v (wipe σ vs) H1 fun σ2 H2 => wipe σ2 vs = wipe σ vs ∧ tt σ2 H2 fun b H3 => if b = true then te σ2 H3 Y else N H3)
    (hd : ∀ out v B' H', ExtD d c B H B' H' → Pv as.length out → dat K (.list out) B' v → Q v H') : tLc wi g tt te vs σ H Q := hi B H (Same.refl _) L.bh _ fun J B2 H2 e hw => fun D hD => by
  have eD := ExtD.of L e
  have hw' : Walk J as.length (fun H => Same B2 H) (fun i H x H' => ∃ R, (as.map r)[i]? = some R ∧ ∀ Bc, Same B2 Bc → Same Bc H → ∃ Bn, Ext Bc H Bn H' ∧ R Bn x) := by
    have := hw
    unfold Wk at this
    rw [List.length_map] at this
    exact this
  refine lc_it hw' (fun i H' => ∃ B' xs out, ExtD d c B2 H2 B' H' ∧ Ml d c B' H' D xs ∧ AllR (out.map (dat K)) B' xs ∧ Pv i out ∧ out.length ≤ i) ?_ (fun i H' _ ⟨B', xs, out, e', _⟩ => e'.bb.trans e'.bh) ?_ ?_
  · exact ⟨B2, [], [], (Ml.new eD.dl hD).2, (Ml.new eD.dl hD).1, rfl, h0, Nat.le_refl _⟩
  · rintro i x H' H'' hi' ⟨Bc, xs, out, e', m, hxs, pv, lo⟩ ⟨R, hR, y⟩
    obtain ⟨Bn, e2, hx⟩ := y Bc e'.bb e'.bh
    rw [List.getElem?_map] at hR
    obtain ⟨a, ha, rfl⟩ := Option.map_eq_some_iff.mp hR
    have e2 := ExtD.of e'.dl e2
    have e12 := e'.trans eD.dl e2
    have len := allR_len hxs
    rw [List.length_map] at len
    refine hs i a x Bn H'' out ha e2.dl ((eD.bb.trans e'.bb).trans e2.bb) hx pv _ _ (fun y B4 H4 z e4 hz pz => ?_) fun B4 H4 e4 pz => ?_
    · have e14 := e12.trans eD.dl e4
      have m4 := (m.ext e2).ext e4
      refine ⟨xs, m4.at_, by omega, B4, xs ++ [y], out ++ [z], e14.setL m4 hD, (Ml.set e4.dl m4).1, ?_, pz, by simp; omega⟩
      rw [List.map_append]
      exact allR_snoc (MoA.mo (e2.bb.trans e4.bb) hxs) hz
    · exact ⟨B4, xs, out, e12.trans eD.dl e4, (m.ext e2).ext e4, MoA.mo (e2.bb.trans e4.bb) hxs, pz, by omega⟩
  · rintro H' ⟨B', xs, out, e', m, hxs, pv, lo⟩
    have hBD : H D = none := by
      cases h : H D with
      | none => rfl
      | some o =>
        rw [e.hh D o h] at hD
        cases hD
    exact hd out (.ref D) _ H' ((eD.trans L e').settle m hBD) pv (m.dat hxs)
/-- as often as a drawn number tells -/
theorem c_lcAny {n k : Int} {i : Nat} {g : TG} {vs : List Nat} {E : XK} {te0 : TE} (L : Dl B H d c) (hd : σ[i]? = some (some (.ref d))) (hn : De te0 σ B (dat K (.int n))) (n0 : 0 < n) (n1 : n < 2 ^ 60) (k0 : 0 ≤ k) (k1 : k < 2 ^ 60)
    (go : ∀ r B' H', 0 ≤ r → r < n → ExtD d c B H B' H' → tLc (fun _ H R => R (Itr 0 (k + r).toNat) H) g tt te vs σ H' Q) :
    tLc (iRng1 (tCons (tOp (rI0 fun i j => V.int (i + j)) (tC (.int k)) (tCall spAny [] E (tCons (tVar i) (tCons te0 tNil)))) tNil)) g tt te vs σ H Q :=
  c_any L hd hn n0 (by omega) fun r B' H' r0 r1 e => ⟨k, r, rfl, rfl, k + r, rfl, by omega, by omega, go r B' H' r0 r1 e⟩
/-- what is wanted behind a turn -/
def Nd (d c : Addr) (B0 H0 B1 : Hp) (P : L2.St → Hp → Hp → Prop) : L2.St → Hp → Prop := fun σ H' => ∃ B', ExtD d c B0 H0 B' H' ∧ Same B1 B' ∧ P σ B' H'
theorem s_forD {wi : TI} {g : TG} {ts rest : TS} {D : Ends} {Rs : List Rel} {B0 H0 : Hp} (L0 : Dl B0 H0 d c) (e0 : ExtD d c B0 H0 B H) (hi : Di wi σ B Rs) (Pv : Nat → L2.St → Hp → Hp → Prop) (h0 : ∀ B1 H1, ExtD d c B H B1 H1 → Pv 0 σ B1 H1)
    (hs : ∀ B1 i R v σ' Bc Hc Bn Hn, Same B B1 → Rs[i]? = some R → ExtD d c B0 H0 Bc Hc → Same B1 Bc → Pv i σ' Bc Hc → ExtD d c Bc Hc Bn Hn → R Bn v → g v σ' Hn fun σ2 H2 => ts { D with nx := Nd d c B0 H0 B1 (Pv (i + 1)), ct := Nd d c B0 H0 B1 (Pv (i + 1)), bk := rest D } σ2 H2)
    (hd : ∀ σ' B' H', ExtD d c B0 H0 B' H' → Same B B' → Pv Rs.length σ' B' H' → rest D σ' H') : tSeq (tFor wi g ts) rest D σ H :=
  hi B H (Same.refl _) e0.bh _ fun J B1 H1 e hw => by
    have eD := ExtD.of e0.dl e
    have := for_it hw (D := { D with nx := rest D }) (g := g) (tb := ts) (fun i => Nd d c B0 H0 B1 (Pv i)) ⟨B1, e0.trans L0 eD, Same.refl _, h0 B1 H1 eD⟩ (fun i σ' H' _ ⟨B', s1, s2, _⟩ => s2.trans s1.bh)
      (fun i x σ' H' H'' hi ⟨Bc, s1, s2, p⟩ ⟨R, hR, y⟩ => by
        obtain ⟨Bn, e2, hx⟩ := y Bc s2 s1.bh
        exact hs B1 i R x σ' Bc H' Bn H'' eD.bb hR s1 s2 p (.of s1.dl e2) hx)
      (fun σ' H' ⟨B', s1, s2, p⟩ => hd σ' B' H' s1 (eD.bb.trans s2) p)
    exact this
theorem s_forL {g : TG} {ts rest : TS} {D : Ends} (h : te σ H fun x H1 => ∃ a, x = .ref a ∧ (∃ xs, SqL K H1 a xs) ∧ tSeq (tFor (fun _ H R => R (Itl K a) H) g ts) rest D σ H1) : tSeq (tFor (iList K te) g ts) rest D σ H := h
theorem Di.itl {a : Addr} {ds : List PyData} (h : dat K (.list ds) B (.ref a)) : Di (fun _ H R => R (Itl K a) H) σ B (ds.map (dat K)) := fun B1 H s1 s2 Q q => by
  obtain ⟨v, hv, a', ha, _, r⟩ := Di.listD (K := K) (De.var (i := 0) (σ := [some (.ref a)]) h rfl) B1 H s1 s2 Q q
  cases hv
  cases ha
  exact r
/-- a hidden list, looked at: the base with it -/
theorem Ml.look {L : Addr} {xs : List V} (D : Dl B H d c) (m : Ml d c B H L xs) : Same B (upd B L (.lst xs)) ∧ Same (upd B L (.lst xs)) H := ⟨new_same m.no, fun b o h => by
  by_cases n : b = L
  · subst n
    rw [upd_same] at h
    cases h
    exact m.at_
  · rw [upd_ne n] at h
    exact D.bh b o h⟩
theorem Ml.looked {L : Addr} {xs : List V} {B2 H2 : Hp} (D : Dl B H d c) (e : Ext (upd B L (.lst xs)) H B2 H2) : ExtD d c B H B H2 := .of D ⟨e.hh, Same.refl _, D.bh.trans e.hh, fun _ _ h => h⟩
end
theorem nodup_len {α : Type} [BEq α] [LawfulBEq α] : ∀ {l m : List α}, l.Nodup → (∀ x ∈ l, x ∈ m) → l.length ≤ m.length
  | [], _, _, _ => Nat.zero_le _
  | x :: l, m, h, s => by
    obtain ⟨h1, h2⟩ := List.nodup_cons.mp h
    have hx := s x List.mem_cons_self
    have := nodup_len (l := l) (m := m.erase x) h2 fun y hy => (List.mem_erase_of_ne (fun e => h1 (by rw [← e]; exact hy))).mpr (s y (List.mem_cons_of_mem _ hy))
    rw [List.length_erase_of_mem hx] at this
    have := List.length_pos_of_mem hx
    rw [List.length_cons]
    omega
end Wv

set_option Elab.async false
set_option linter.all false
set_option maxRecDepth 100000
set_option maxHeartbeats 4000000
/-! Wv7: comparisons of what is the same. -/
namespace Wv
open PySem PySem.Spec PyProof.Rows L2 Wb
theorem eqv_shaped {d : PyData} (h : SeqAt.shaped d = true) : PyData.eqv d d = true := by
  unfold SeqAt.shaped at h
  rw [Bool.and_eq_true] at h
  exact SeqAt.eqv_refl d h.1
section
variable {K : PySem.W.Frag} {σ : L2.St} {B H : Hp} {ta tb te tk : TE} {tt tu : TT} {R S T : Rel} {d e : PyData}
theorem De.reprs (ha : De ta σ B (dat K d)) (hb : De tb σ B (dat K d)) (hs : Shw d) : De (tOp rEq (tCB (rShow K) (tCons ta tNil)) (tCB (rShow K) (tCons tb tNil))) σ B (dat K (.bool true)) := De.eq (.op (.show ha hs) (.show hb hs) Rv.eqS) (by simp)
theorem De.same (ha : De ta σ B (dat K d)) (hb : De tb σ B (dat K d)) (hs : SeqAt.shaped d = true) : De (tOp (rEqD K) ta tb) σ B (dat K (.bool true)) := De.eq (.op ha hb (Rv.eqD hs hs)) (by rw [eqv_shaped hs])
theorem Dt.reprs (ha : De ta σ B (dat K d)) (hb : De tb σ B (dat K d)) (hs : Shw d) : Dt (tTest (tOp rNe (tCB (rShow K) (tCons ta tNil)) (tCB (rShow K) (tCons tb tNil)))) σ B false := Dt.eq (.test (K := K) (.op (.show ha hs) (.show hb hs) Rv.neS)) (by simp)
theorem Dt.same (ha : De ta σ B (dat K d)) (hb : De tb σ B (dat K d)) (hs : SeqAt.shaped d = true) : Dt (tTest (tOp (rNeD K) ta tb)) σ B false := Dt.eq (.test (K := K) (.op ha hb (Rv.neD hs hs))) (by rw [eqv_shaped hs]; rfl)
theorem Dt.sameI {i : Int} (ha : De ta σ B (dat K (.int i))) (hb : De tb σ B (dat K (.int i))) : Dt (tTest (tOp rNe ta tb)) σ B false := Dt.eq (.test (K := K) (.op ha hb Rv.neI)) (by simp)
theorem Dt.or2 (h1 : Dt tt σ B false) (h2 : Dt tu σ B false) : Dt (tOr tt tu) σ B false := .or h1 fun _ => h2
theorem De.and2 (h1 : De ta σ B (dat K (.bool true))) (h2 : De tb σ B (dat K (.bool true))) : De (tAndV ta tb) σ B (dat K (.bool true)) := .andV h1 fun _ => h2
end
section
variable {R R1 R2 : Rel} {B : Hp} {vs : List V}
theorem kw1 (h : AllR [R] B vs) : AllR [R] B (kwV [0] vs) := by
  obtain ⟨v, r, rfl, h1, h⟩ := h
  exact ⟨v, [], rfl, h1, rfl⟩
theorem kw2 (h : AllR [R1, R] B vs) : AllR [R, R1] B (kwV [1, 0] vs) := by
  obtain ⟨v, r, rfl, h1, v1, r1, rfl, h2, h⟩ := h
  exact ⟨v1, [v], rfl, h2, v, [], rfl, h1, rfl⟩
theorem kw3 (h : AllR [R2, R1, R] B vs) : AllR [R, R1, R2] B (kwV [2, 1, 0] vs) := by
  obtain ⟨v, r, rfl, h1, v1, r1, rfl, h2, v2, r2, rfl, h3, h⟩ := h
  exact ⟨v2, _, rfl, h3, v1, _, rfl, h2, v, [], rfl, h1, rfl⟩
end
end Wv

set_option Elab.async false
set_option linter.all false
set_option maxRecDepth 100000
set_option maxHeartbeats 4000000
/-! Fq: fractions as data, what is worked out of them. -/
theorem L2.Room.u1 {k : Nat} {A : PySem.Around} (h : L2.Room k A) : A.units + 1 < PySem.cLine := by
  have := h.units
  omega
namespace Fq
open PySem PySem.Spec PyProof.Rows L2 Wb Wv Wf
/-- a fraction as data -/
def frD (q : Rat) : PyData := .tuple [.int q.num, .int (q.den : Int)]
theorem frD_eqv (p q : Rat) : PyData.eqv (frD p) (frD q) = decide (p = q) := by
  unfold frD
  simp only [PyData.eqv, PyData.eqvAll, Bool.and_true]
  by_cases h : p = q
  · subst h
    simp
  · rw [decide_eq_false h]
    by_cases a : p.num = q.num
    · have b : ¬ p.den = q.den := fun z => h (Rat.ext a z)
      have b' : ¬ (p.den : Int) = q.den := fun z => b (by omega)
      simp [a, b']
    · simp [a]
theorem frD_shaped (q : Rat) : SeqAt.shaped (frD q) = true := by
  show (PyData.canLay0 (frD q) && decide (PyData.depth (frD q) ≤ 64)) = true
  unfold frD
  simp [PyData.canLay0, PyData.canLayAll0, PyData.depth, PyData.depthAll]
theorem denA (q : Rat) : ((q.den : Int)).natAbs = q.den := Int.natAbs_natCast _
theorem frD_tb {q : Rat} {n : Nat} (h : Sz n q) (hn : n ≤ 1900) : Tb 1 2 (frD q) := by
  have up : 2 ^ n ≤ 2 ^ 1900 := Nat.pow_le_pow_right (by decide) hn
  have h1 := h.top
  have h2 := h.bot
  have h3 : ((q.den : Int)).natAbs < 2 ^ 1900 := by rw [denA]; omega
  exact (TbAll.cons (tb_int (by omega)) (.cons (tb_int h3) .nil)).tuple
theorem den_ne (q : Rat) : (q.den : Int) ≠ 0 := by
  have := q.den_pos
  omega
theorem dens_ne (p q : Rat) : (p.den : Int) * q.den ≠ 0 := Int.mul_ne_zero (den_ne p) (den_ne q)
theorem den_pos (q : Rat) : (0 : Int) < q.den := by
  have := q.den_pos
  omega
theorem dens_pos (p q : Rat) : (0 : Int) < p.den * q.den := Int.mul_pos (den_pos p) (den_pos q)
theorem lt_mulI {i j : Int} {a b : Nat} (ha : i.natAbs < 2 ^ a) (hb : j.natAbs < 2 ^ b) : (i * j).natAbs < 2 ^ (a + b) := wide_lt ha hb
theorem sz_den {k : Nat} {q : Rat} (h : Sz k q) : ((q.den : Int)).natAbs < 2 ^ k := by
  rw [denA]
  exact h.bot
theorem mulOk {i j : Int} (h1 : i.natAbs < 2 ^ 3000) (h2 : j.natAbs < 2 ^ 3000) : CMulW i j := wide_mul h1 h2 (by decide) (by decide) (by decide)
theorem dens_lt {p q : Rat} (h1 : Sz 3000 p) (h2 : Sz 3000 q) : ((p.den : Int) * q.den).natAbs < 2 ^ 7000 := Nat.lt_of_lt_of_le (lt_mulI (sz_den h1) (sz_den h2)) (Nat.pow_le_pow_right (by decide) (by decide))
theorem tops_lt {p q : Rat} (h1 : Sz 3000 p) (h2 : Sz 3000 q) : (p.num * q.num).natAbs < 2 ^ 7000 := Nat.lt_of_lt_of_le (lt_mulI h1.top h2.top) (Nat.pow_le_pow_right (by decide) (by decide))
theorem cross_lt {p q : Rat} (h1 : Sz 3000 p) (h2 : Sz 3000 q) : (p.num * q.den + q.num * p.den).natAbs < 2 ^ 7000 := by
  have a := lt_mulI h1.top (sz_den h2)
  have b := lt_mulI h2.top (sz_den h1)
  have c : 2 ^ (3000 + 3000) + 2 ^ (3000 + 3000) ≤ 2 ^ 7000 := by
    rw [← Nat.two_mul, ← Nat.pow_succ']
    exact Nat.pow_le_pow_right (by decide) (by decide)
  exact Nat.lt_of_le_of_lt (Int.natAbs_add_le _ _) (Nat.lt_of_lt_of_le (Nat.add_lt_add a b) c)
theorem cross_lt' {p q : Rat} (h1 : Sz 3000 p) (h2 : Sz 3000 q) : (p.num * q.den - q.num * p.den).natAbs < 2 ^ 7000 := by
  have a := lt_mulI h1.top (sz_den h2)
  have b := lt_mulI h2.top (sz_den h1)
  have c : 2 ^ (3000 + 3000) + 2 ^ (3000 + 3000) ≤ 2 ^ 7000 := by
    rw [← Nat.two_mul, ← Nat.pow_succ']
    exact Nat.pow_le_pow_right (by decide) (by decide)
  have d := Int.natAbs_sub_le (p.num * q.den) (q.num * p.den)
  exact Nat.lt_of_le_of_lt d (Nat.lt_of_lt_of_le (Nat.add_lt_add a b) c)
/-! ### promises -/
/-- fraction(top, bottom) -/
def spFracD (K : PySem.W.Frag) (CS : Addr) : Sp := fun vs H Q E => ∃ (B : Hp) (t b : Int), vs = [.int t, .int b] ∧ Same B H ∧ b.natAbs < 2 ^ 7000 ∧ (b ≠ 0 → ∀ v B' H', Ext B H B' H' → dat K (frD (Rat.divInt t b)) B' v → Q v H') ∧
  (b = 0 → ∀ dx, H dx = none → E (.ref CS) (some dx) (upd H dx (.xd [("word", .str "bottom")])))
abbrev spLowD (K : PySem.W.Frag) : Sp := Pf (α := Int × Int) (fun a => [dat K (.int a.1), dat K (.int a.2)]) (fun a => 0 < a.2 ∧ a.2.natAbs < 2 ^ 7000) (fun a => dat K (frD (Rat.divInt a.1 a.2)))
abbrev spGcdD (K : PySem.W.Frag) : Sp := Pf (α := Nat × Nat) (fun a => [dat K (.int a.1), dat K (.int a.2)]) (fun _ => True) (fun a => dat K (.int (Nat.gcd a.1 a.2 : Nat)))
abbrev spWholeD (K : PySem.W.Frag) : Sp := Pf (α := Int) (fun a => [dat K (.int a)]) (fun _ => True) (fun a => dat K (frD (a : Rat)))
abbrev spBinD (K : PySem.W.Frag) (f : Rat → Rat → Rat) : Sp := Pf (α := Rat × Rat) (fun a => [dat K (frD a.1), dat K (frD a.2)]) (fun a => Sz 3000 a.1 ∧ Sz 3000 a.2) (fun a => dat K (frD (f a.1 a.2)))
section
variable {K : PySem.W.Frag} {σ : L2.St} {B B' : Hp} {ta tb te : TE} {p q : Rat} {E : XK} {CS : Addr}
theorem De.num (h : De te σ B (dat K (frD q))) : De (tOp (rIxT K) te (tC (.int 0))) σ B (dat K (.int q.num)) := .op h .int (Rv.ixTD rfl)
theorem De.den (h : De te σ B (dat K (frD q))) : De (tOp (rIxT K) te (tC (.int 1))) σ B (dat K (.int (q.den : Int))) := .op h .int (Rv.ixTD rfl)
theorem De.frac {t b : Int} {tr : TA} (h : Da tr σ B [dat K (.int t), dat K (.int b)]) (b0 : b ≠ 0) (lb : b.natAbs < 2 ^ 7000) : De (tCall (fun vs H Q _ => spFracD K CS vs H Q fun _ _ _ => False) [] E tr) σ B (dat K (frD (Rat.divInt t b))) := fun B1 H s1 s2 Q k =>
  h B1 H s1 s2 _ fun vs B2 H2 e hv => by
    obtain ⟨x, r, rfl, hx, y, r', rfl, hy, hr⟩ := hv
    have hr : r' = [] := hr
    subst hr
    have hx := dat_int hx
    subst hx
    have hy := dat_int hy
    subst hy
    exact ⟨B2, t, b, rfl, e.bh, lb, fun _ v B' H' e' hv => k v B' H' (e.trans e') hv, fun z => absurd z b0⟩
theorem De.low {t b : Int} {tr : TA} (h : Da tr σ B [dat K (.int t), dat K (.int b)]) (b0 : 0 < b) (lb : b.natAbs < 2 ^ 7000) : De (tCall (spLowD K) [] E tr) σ B (dat K (frD (Rat.divInt t b))) := De.call (t, b) h ⟨b0, lb⟩
theorem De.bin {f : Rat → Rat → Rat} {tr : TA} (h : Da tr σ B [dat K (frD p), dat K (frD q)]) (zp : Sz 3000 p) (zq : Sz 3000 q) : De (tCall (spBinD K f) [] E tr) σ B (dat K (frD (f p q))) := De.call (p, q) h ⟨zp, zq⟩
theorem De.tupI {i j : Int} {tr : TA} (h : Da tr σ B [dat K (.int i), dat K (.int j)]) : De (tTup tr) σ B (dat K (.tuple [.int i, .int j])) := De.tupD (ds := [.int i, .int j]) h (by show 2 ≤ sizeLine; decide)
theorem De.cross {ta tb tc td : TE} (ha : De ta σ B (dat K (frD p))) (hb : De tb σ B (dat K (frD q))) (hc : De tc σ B (dat K (frD q))) (hd : De td σ B (dat K (frD p))) (zp : Sz 3000 p) (zq : Sz 3000 q) :
    De (tOp (rI0 fun i j => .int (i + j)) (tOp (rI CMulW fun i j => .int (i * j)) (tOp (rIxT K) ta (tC (.int 0))) (tOp (rIxT K) tb (tC (.int 1)))) (tOp (rI CMulW fun i j => .int (i * j)) (tOp (rIxT K) tc (tC (.int 0))) (tOp (rIxT K) td (tC (.int 1))))) σ B (dat K (.int (p.num * q.den + q.num * p.den))) :=
  .op (.op (De.num ha) (De.den hb) (Rv.I (mulOk zp.top (sz_den zq)))) (.op (De.num hc) (De.den hd) (Rv.I (mulOk zq.top (sz_den zp)))) Rv.I0
theorem De.tops {ta tb : TE} (ha : De ta σ B (dat K (frD p))) (hb : De tb σ B (dat K (frD q))) (zp : Sz 3000 p) (zq : Sz 3000 q) :
    De (tOp (rI CMulW fun i j => .int (i * j)) (tOp (rIxT K) ta (tC (.int 0))) (tOp (rIxT K) tb (tC (.int 0)))) σ B (dat K (.int (p.num * q.num))) := .op (De.num ha) (De.num hb) (Rv.I (mulOk zp.top zq.top))
theorem De.dens {ta tb : TE} (ha : De ta σ B (dat K (frD p))) (hb : De tb σ B (dat K (frD q))) (zp : Sz 3000 p) (zq : Sz 3000 q) :
    De (tOp (rI CMulW fun i j => .int (i * j)) (tOp (rIxT K) ta (tC (.int 1))) (tOp (rIxT K) tb (tC (.int 1)))) σ B (dat K (.int (p.den * q.den))) := .op (De.den ha) (De.den hb) (Rv.I (mulOk (sz_den zp) (sz_den zq)))
theorem den1 (n : Int) : frD (n : Rat) = .tuple [.int n, .int 1] := rfl
theorem De.cstT {a : Addr} {i j : Int} (h : ∀ H, SqT K H a [.int i, .int j]) : De (tC (.ref a)) σ B (dat K (.tuple [.int i, .int j])) := .cst fun B => .tup (h B) (.cons (.int _) (.cons (.int _) .nil))
theorem gcd_pos {t b : Int} (hb : 0 < b) : 0 < Nat.gcd t.natAbs b.natAbs := Nat.gcd_pos_of_pos_right _ (by omega)
theorem dats_ints : ∀ {ns : List Int} {xs : List V}, AllR (ns.map fun n => dat K (.int n)) B xs → xs = ns.map V.int
  | [], xs, h => h
  | n :: ns, xs, ⟨v, u, e, h, t⟩ => by
    rw [e, dat_int h, dats_ints t]
    rfl
theorem rc_sum {ns : List Int} : Rc (rSum K) B [dat K (.list (ns.map .int))] (dat K (.int ns.sum)) := fun vs B1 H _ s2 hv Q q => by
  obtain ⟨v, r, rfl, h, h2⟩ := hv
  have h2 : r = [] := h2
  subst h2
  obtain ⟨a, xs, rfl, hs, hR⟩ := dat_lstR h
  rw [List.map_map] at hR
  have e := dats_ints (K := K) (ns := ns) hR
  subst e
  exact ⟨a, ns, rfl, s2.seq hs, q _ B1 H (.refl s2) (.int _)⟩
theorem De.gcd {t b : Int} {tr : TA} (h : Da tr σ B [dat K (.int t), dat K (.int b)]) : De (tCB rGcd tr) σ B (dat K (.int ((Nat.gcd t.natAbs b.natAbs : Nat) : Int))) := .cb h fun vs B1 H _ s2 hv Q k => by
  obtain ⟨x, r, rfl, hx, y, r', rfl, hy, hr⟩ := hv
  have hr : r' = [] := hr
  subst hr
  exact ⟨t, b, by rw [dat_int hx, dat_int hy], k _ B1 H (.refl s2) (.int _)⟩
theorem De.abs {i : Int} (h : De te σ B (dat K (.int i))) : De (tCB (fun xs H Q => ∃ i, xs = [.int i] ∧ Q (.int (if i < 0 then -i else i)) H) (tCons te tNil)) σ B (dat K (.int (i.natAbs : Nat))) := .cb (.one h) fun vs B1 H _ s2 hv Q k => by
  obtain ⟨x, r, rfl, hx, hr⟩ := hv
  have hr : r = [] := hr
  subst hr
  refine ⟨i, by rw [dat_int hx], k _ B1 H (.refl s2) ?_⟩
  have : (if i < 0 then -i else i) = ((i.natAbs : Nat) : Int) := by split <;> omega
  rw [this]
  exact .int _
theorem kw2s {R R1 : Rel} {vs : List V} (h : AllR [R, R1] B vs) : AllR [R, R1] B (kwV [0, 1] vs) := by
  obtain ⟨x, r, rfl, hx, y, r', rfl, hy, hr⟩ := h
  have hr : r' = [] := hr
  subst hr
  exact ⟨x, _, rfl, hx, y, _, rfl, hy, rfl⟩
theorem low_eq {t b : Int} (hb : 0 < b) : t / ((Nat.gcd t.natAbs b.natAbs : Nat) : Int) = (Rat.divInt t b).num ∧ b / ((Nat.gcd t.natAbs b.natAbs : Nat) : Int) = ((Rat.divInt t b).den : Int) := low_val t b hb
end
end Fq

set_option Elab.async false
set_option linter.all false
set_option maxRecDepth 100000
set_option maxHeartbeats 4000000
/-! K47a: fractions, signs, rows that lean. -/
namespace K47
open PySem PySem.Spec PyProof.Rows L2 Wb Wv Wf Fq
def topS (i : Nat) : Stmt := PySem.Challenge.pw_whyblank_k47_signs_and_rows_that_lean.main.body.getD i (.Pass ⟨0, 0, 0, 0⟩)
abbrev s_fraction : Stmt := topS 6
abbrev s_whole : Stmt := topS 7
abbrev s_plus : Stmt := topS 8
abbrev s_times : Stmt := topS 9
abbrev s_sign : Stmt := topS 11
abbrev s_leaned : Stmt := topS 12
abbrev s_deal : Stmt := topS 14
abbrev s_any : Stmt := topS 15
abbrev s_lgcd : Stmt := topS 16
abbrev s_lfrac : Stmt := topS 17
abbrev s_lplus : Stmt := topS 18
abbrev s_ltimes : Stmt := topS 19
abbrev s_lsign : Stmt := topS 20
abbrev s_lleaned : Stmt := topS 21
abbrev s_law : Stmt := topS 22
abbrev spPlusD (K : PySem.W.Frag) := spBinD K (· + ·)
abbrev spTimesD (K : PySem.W.Frag) := spBinD K (· * ·)
abbrev sp_gcd := spGcdD
abbrev sp_frac := spLowD
def sgn (n : Int) : Int := if n = 0 then 1 else if n = 1 then -1 else 0
abbrev spSignV (K : PySem.W.Frag) : Sp := Pf (α := Int) (fun a => [dat K (.int a)]) (fun _ => True) (fun a => dat K (.int (sgn a)))
/-- one share of a row that leans -/
def lean1 (m : Nat) (s : Rat) (i : Nat) : Rat := Rat.divInt 1 m * (1 + s * (sgn i : Rat))
def leanD (m : Nat) (s : Rat) : PyData := .tuple ((List.range m).map fun i => frD (lean1 m s i))
abbrev spLeaned (K : PySem.W.Frag) : Sp := Pf (α := Nat × Rat) (fun a => [dat K (.int a.1), dat K (frD a.2)]) (fun a => 0 < a.1 ∧ a.1 ≤ 100 ∧ Sz 100 a.2) (fun a => dat K (leanD a.1 a.2))
theorem sz_sgn (n : Int) : Sz 2 (sgn n : Rat) := by
  unfold sgn
  split
  · exact ⟨by decide, by decide⟩
  · split
    · exact ⟨by decide, by decide⟩
    · exact ⟨by decide, by decide⟩
theorem sz_one : Sz 2 (1 : Rat) := ⟨by decide, by decide⟩
theorem sz_part {m : Nat} (h0 : 0 < m) (h : m ≤ 100) : Sz 10 (Rat.divInt 1 m) := sz_divInt (by omega) (by decide) (by show (m : Int).natAbs < 1024; omega)
theorem sz_lean {m : Nat} {s : Rat} (h0 : 0 < m) (h : m ≤ 100) (hs : Sz 100 s) (i : Nat) : Sz 200 (lean1 m s i) := ((sz_part h0 h).mul (sz_one.add (hs.mul (sz_sgn i)))).mono (by decide)
section
variable {P : Program} {w : World} {K : PySem.W.Frag} {mg : Str → Option Value} {base : Heap} {C_InvalidSize C_BlankError a_ONE : Addr}
theorem sc_fraction : FnScope ["top", "bottom", "common"] ["top", "bottom"] (defScope s_fraction) := ⟨rfl, rfl, rfl, by decide +kernel, rfl, by decide +kernel, by decide +kernel⟩
theorem ok_fraction (D : Def K mg "fraction" s_fraction ["top", "bottom"]) (Z_InvalidSize : Err P w K mg base "InvalidSize" "word" C_InvalidSize (topE C_BlankError)) (m_gcd : mg "gcd" = some (.builtin "math.gcd")) : Cal P w K mg base (L2.CX P w) 3 "fraction" s_fraction ["top", "bottom"] (spFracD K C_InvalidSize) := by
  refine D.okX sc_fraction (fun vs H Q E h => ?_) (fun cdv f A outer s H vs Q E hr h => ?_)
  · obtain ⟨B, t, b, rfl, _⟩ := h
    rfl
  obtain ⟨B, t, b, rfl, hB, lb, q1, q2⟩ := h
  refine ⟨_, (pss_cons (ps_if (pt_cmpR op_eq (pv 1) pe_int (nomark _)) (pss_one (ps_raise rfl (takes_of rfl rfl rfl rfl) (pmk_E Z_InvalidSize hr (by decide) rfl (pa_cons pe_str pa_nil)))) pss_nil)
    (pss_cons (ps_set (i := 2) sc_fraction.nd rfl (Or.inl rfl) (pe_callBfun cr_gcd rfl m_gcd (pa_cons (pv 0) (pa_cons (pv 1) pa_nil))))
    (pss_cons (ps_if (pt_cmpR op_lt (pv 1) pe_int (nomark _)) (pss_one (ps_set (i := 2) sc_fraction.nd rfl (Or.inl rfl) (pe_un un_neg (pv 2)))) pss_nil)
    (pss_one (ps_ret (pe_tup (pa_cons (pe_op op_fdivS (pv 0) (pv 2)) (pa_cons (pe_op op_fdivS (pv 1) (pv 2)) pa_nil)))))))), ?_⟩
  refine ⟨_, rfl, rfl, _, rfl, ?_⟩
  refine ite2 (fun h => ?_) (fun h => ?_)
  · have e : b = 0 := V.int.inj (of_decide_eq_true h)
    exact ⟨.str "bottom", rfl, q2 e⟩
  have nz : b ≠ 0 := fun e => h (decide_eq_true (by rw [e]))
  have k := q1 nz
  clear h q2 q1
  have gl : ((Nat.gcd t.natAbs b.natAbs : Nat) : Int).natAbs < 2 ^ 7000 := by
    rw [Int.natAbs_natCast]
    exact Nat.lt_of_le_of_lt (Nat.gcd_le_right _ (Int.natAbs_pos.mpr nz)) lb
  have fin : ∀ c : Int, c = (if b < 0 then -((Nat.gcd t.natAbs b.natAbs : Nat) : Int) else ((Nat.gcd t.natAbs b.natAbs : Nat) : Int)) → CDivS t c ∧ CDivS b c ∧ t.fdiv c = (Rat.divInt t b).num ∧ b.fdiv c = ((Rat.divInt t b).den : Int) := by
    intro c hc
    obtain ⟨c0, e1, e2⟩ := frac_val t b nz c hc
    have lg : c.natAbs.log2 < 9000 := by
      have : c.natAbs = ((Nat.gcd t.natAbs b.natAbs : Nat) : Int).natAbs := by
        rw [hc]
        split
        · rw [Int.natAbs_neg]
        · rfl
      rw [this]
      exact Nat.lt_trans (log_le gl (by decide)) (by decide)
    exact ⟨⟨c0, lg⟩, ⟨c0, lg⟩, e1, e2⟩
  refine s_set (De.gcd (K := K) (.cons (.var (Dp.int t) rfl) (.cons (.var (Dp.int b) rfl) .nil))) hB fun v B1 H1 e1 hv => ?_
  have hv := dat_int hv
  subst hv
  refine seqI (t1 := tIfS _ _ _) (fun σ' J => ∃ c : Int, σ' = [some (.int t), some (.int b), some (.int c)] ∧ J = H1 ∧ c = (if b < 0 then -((Nat.gcd t.natAbs b.natAbs : Nat) : Int) else ((Nat.gcd t.natAbs b.natAbs : Nat) : Int))) ?_ ?_
  · rintro σ' J ⟨c, rfl, rfl, hc⟩
    obtain ⟨d1, d2, f1, f2⟩ := fin c hc
    refine s_ret (De.eq (De.tupI (K := K) (.cons (.op (.var (Dp.int _) rfl) (.var (Dp.int _) rfl) (Rv.I d1)) (.cons (.op (.var (Dp.int _) rfl) (.var (Dp.int _) rfl) (Rv.I d2)) .nil))) (e := frD (Rat.divInt t b)) ?_) e1.bh fun v B2 H2 e2 hv => k v B2 H2 (e1.trans e2) hv
    show PyData.tuple [.int (t.fdiv c), .int (b.fdiv c)] = _
    rw [f1, f2]
    rfl
  · intro Z hZ
    refine ⟨_, rfl, _, _, rfl, rfl, _, rfl, ?_⟩
    refine ite2 (fun h => ?_) (fun h => ?_)
    · have e : b < 0 := of_decide_eq_true h
      refine ⟨_, rfl, _, rfl, ?_⟩
      exact hZ _ _ ⟨_, rfl, rfl, (if_pos e).symm⟩
    · have e : ¬ b < 0 := fun z => h (decide_eq_true z)
      exact hZ _ _ ⟨_, rfl, rfl, (if_neg e).symm⟩
theorem sc_whole : FnScope ["number"] ["number"] (defScope s_whole) := ⟨rfl, rfl, rfl, by decide +kernel, rfl, by decide +kernel, by decide +kernel⟩
theorem ok_whole (D : Def K mg "whole" s_whole ["number"])  : Cal P w K mg base CX0 1 "whole" s_whole ["number"] (spWholeD K) := by
  refine D.ok sc_whole (fun vs H Q E h => ?_) (fun cdv f A outer s H vs Q E hr h => ?_)
  · exact pf_len h fun _ => rfl
  replace h := pf1 h
  obtain ⟨v, B, n, rfl, hB, hv, _, k⟩ := h
  refine ⟨_, (pss_one (ps_ret (pe_tup (pa_cons (pv 0) (pa_cons pe_int pa_nil))))), ?_⟩
  exact s_ret (De.tupI (K := K) (.cons (.var hv rfl) (.cons .int .nil))) hB k
theorem sc_plus : FnScope ["one", "other"] ["one", "other"] (defScope s_plus) := ⟨rfl, rfl, rfl, by decide +kernel, rfl, by decide +kernel, by decide +kernel⟩
theorem ok_plus (D : Def K mg "plus" s_plus ["one", "other"]) (C_fraction : Cal P w K mg base (L2.CX P w) 3 "fraction" s_fraction ["top", "bottom"] (spFracD K C_InvalidSize)) : Cal P w K mg base CX0 4 "plus" s_plus ["one", "other"] (spPlusD K) := by
  refine D.ok sc_plus (fun vs H Q E h => ?_) (fun cdv f A outer s H vs Q E hr h => ?_)
  · exact pf_len h fun _ => rfl
  replace h := pf2 h
  obtain ⟨v, v1, B, ⟨p, q⟩, rfl, hB, hv, hv1, ⟨zp, zq⟩, k⟩ := h
  refine ⟨_, (pss_one (ps_ret (pe_cal C_fraction.quiet (hr.mono (by decide)) (by rfl) pass0 (pa_cons (pe_op op_add (pe_op op_mulW (pe_ix ix_tup (pv 0) pe_int (fun _ _ => rfl)) (pe_ix ix_tup (pv 1) pe_int (fun _ _ => rfl))) (pe_op op_mulW (pe_ix ix_tup (pv 1) pe_int (fun _ _ => rfl)) (pe_ix ix_tup (pv 0) pe_int (fun _ _ => rfl)))) (pa_cons (pe_op op_mulW (pe_ix ix_tup (pv 0) pe_int (fun _ _ => rfl)) (pe_ix ix_tup (pv 1) pe_int (fun _ _ => rfl))) pa_nil))))), ?_⟩
  exact s_ret (De.eq (De.frac (K := K) (.cons (De.cross (.var hv rfl) (.var hv1 rfl) (.var hv1 rfl) (.var hv rfl) zp zq) (.cons (De.dens (.var hv rfl) (.var hv1 rfl) zp zq) .nil)) (dens_ne p q) (dens_lt zp zq)) (by rw [add_val])) hB k
theorem sc_times : FnScope ["one", "other"] ["one", "other"] (defScope s_times) := ⟨rfl, rfl, rfl, by decide +kernel, rfl, by decide +kernel, by decide +kernel⟩
theorem ok_times (D : Def K mg "times" s_times ["one", "other"]) (C_fraction : Cal P w K mg base (L2.CX P w) 3 "fraction" s_fraction ["top", "bottom"] (spFracD K C_InvalidSize)) : Cal P w K mg base CX0 4 "times" s_times ["one", "other"] (spTimesD K) := by
  refine D.ok sc_times (fun vs H Q E h => ?_) (fun cdv f A outer s H vs Q E hr h => ?_)
  · exact pf_len h fun _ => rfl
  replace h := pf2 h
  obtain ⟨v, v1, B, ⟨p, q⟩, rfl, hB, hv, hv1, ⟨zp, zq⟩, k⟩ := h
  refine ⟨_, (pss_one (ps_ret (pe_cal C_fraction.quiet (hr.mono (by decide)) (by rfl) pass0 (pa_cons (pe_op op_mulW (pe_ix ix_tup (pv 0) pe_int (fun _ _ => rfl)) (pe_ix ix_tup (pv 1) pe_int (fun _ _ => rfl))) (pa_cons (pe_op op_mulW (pe_ix ix_tup (pv 0) pe_int (fun _ _ => rfl)) (pe_ix ix_tup (pv 1) pe_int (fun _ _ => rfl))) pa_nil))))), ?_⟩
  exact s_ret (De.eq (De.frac (K := K) (.cons (De.tops (.var hv rfl) (.var hv1 rfl) zp zq) (.cons (De.dens (.var hv rfl) (.var hv1 rfl) zp zq) .nil)) (dens_ne p q) (dens_lt zp zq)) (by rw [mul_val])) hB k
theorem sc_sign : FnScope ["value"] ["value"] (defScope s_sign) := ⟨rfl, rfl, rfl, by decide +kernel, rfl, by decide +kernel, by decide +kernel⟩
theorem ok_sign (D : Def K mg "sign" s_sign ["value"])  : Cal P w K mg base CX0 1 "sign" s_sign ["value"] (spSignV K) := by
  refine D.ok sc_sign (fun vs H Q E h => ?_) (fun cdv f A outer s H vs Q E hr h => ?_)
  · exact pf_len h fun _ => rfl
  replace h := pf1 h
  obtain ⟨v, B, n, rfl, hB, hv, _, k⟩ := h
  refine ⟨_, (pss_cons (ps_if (pt_cmpR op_eq (pv 0) pe_int (nomark _)) (pss_one (ps_ret pe_int)) pss_nil)
    (pss_one (ps_ret (pe_ifExp (pt_cmpR op_eq (pv 0) pe_int (nomark _)) (pe_un un_neg pe_int) pe_int)))), ?_⟩
  have hv := dat_int hv
  subst hv
  refine s_ifS (Dt.tB (K := K) (.op (r := rEq) (.var (Dp.int n) rfl) .int Rv.eqI)) hB (fun t B1 H1 e1 => ?_) (fun f B1 H1 e1 => ?_)
  · have t : n = 0 := of_decide_eq_true t
    refine s_ret (De.eq (K := K) .int (e := .int (sgn n)) (by unfold sgn; rw [if_pos t])) e1.bh fun v B H e hv => k v B H (e1.trans e) hv
  · have f : ¬ n = 0 := of_decide_eq_false f
    refine s_ret (De.eq (De.iteD (K := K) (Dt.tB (K := K) (.op (r := rEq) (.var (Dp.int n) rfl) .int Rv.eqI)) (fun _ => De.negI .int) (fun _ => .int)) (e := .int (sgn n)) ?_) e1.bh fun v B H e hv => k v B H (e1.trans e) hv
    unfold sgn
    rw [if_neg f]
    by_cases z : n = 1 <;> simp [z]
theorem sc_leaned : FnScope ["many", "strength", "even", "value"] ["many", "strength"] (defScope s_leaned) := ⟨rfl, rfl, rfl, by decide +kernel, rfl, by decide +kernel, by decide +kernel⟩
theorem ok_leaned (D : Def K mg "leaned_row" s_leaned ["many", "strength"]) (C_fraction : Cal P w K mg base (L2.CX P w) 3 "fraction" s_fraction ["top", "bottom"] (spFracD K C_InvalidSize)) (n_range : mg "range" = none) (C_times : Cal P w K mg base CX0 4 "times" s_times ["one", "other"] (spTimesD K)) (C_plus : Cal P w K mg base CX0 4 "plus" s_plus ["one", "other"] (spPlusD K)) (C_whole : Cal P w K mg base CX0 1 "whole" s_whole ["number"] (spWholeD K)) (C_sign : Cal P w K mg base CX0 1 "sign" s_sign ["value"] (spSignV K)) (m_ONE : mg "ONE" = some (.ref a_ONE)) (n_tuple : mg "tuple" = none) (c_ONE : ∀ H, SqT K H a_ONE [.int 1, .int 1]) : Cal P w K mg base CX0 5 "leaned_row" s_leaned ["many", "strength"] (spLeaned K) := by
  refine D.ok sc_leaned (fun vs H Q E h => ?_) (fun cdv f A outer s H vs Q E hr h => ?_)
  · exact pf_len h fun _ => rfl
  replace h := pf2 h
  obtain ⟨v, v1, B, ⟨m, s⟩, rfl, hB, hv, hv1, ⟨m0, m1, zs⟩, k⟩ := h
  refine ⟨_, (pss_cons (ps_set (i := 2) sc_leaned.nd rfl (Or.inr rfl) (pe_cal C_fraction.quiet (hr.mono (by decide)) (by rfl) pass0 (pa_cons pe_int (pa_cons (pv 0) pa_nil))))
    (pss_one (ps_ret (pe_callTy call_tuple_of (by rfl) n_tuple (by decide +kernel) (pa_cons (pe_lc (own := [("value", 3)]) (g := gName 3) (tt := tYes) rfl sc_leaned.nd (pi_range1 rfl n_range (pa_cons (pv 0) pa_nil)) (blkOk_by (own := [("value", 3)]) (N := ["many", "strength", "even", "value"]) (sc := defScope s_leaned) (by decide +kernel)) (fun _ _ _ _ _ => (pg_name (i := 3) sc_leaned.nd rfl (Or.inl rfl))) (fun _ _ _ _ _ => pts_nil) (fun _ _ _ _ _ => (pe_cal C_times (hr.mono (by decide)) (by rfl) pass0 (pa_cons (pv 2) (pa_cons (pe_cal C_plus (hr.mono (by decide)) (by rfl) pass0 (pa_cons (pe_glob (by rfl) m_ONE (show RelV (.ref a_ONE) (.ref a_ONE) from rfl)) (pa_cons (pe_cal C_times (hr.mono (by decide)) (by rfl) pass0 (pa_cons (pv 1) (pa_cons (pe_cal C_whole (hr.mono (by decide)) (by rfl) pass0 (pa_cons (pe_cal C_sign (hr.mono (by decide)) (by rfl) pass0 (pa_cons (pv 3) pa_nil)) pa_nil)) pa_nil))) pa_nil))) pa_nil))))) pa_nil))))), ?_⟩
  have m0 : 0 < m := m0
  have m1 : m ≤ 100 := m1
  have zs : Sz 100 s := zs
  have line := sizeLine_eq
  refine s_set (De.frac (K := K) (t := 1) (b := (m : Int)) (.cons .int (.cons (.var hv rfl) .nil)) (by omega) ?_) hB fun v2 B1 H1 e1 h2 => ?_
  · have : (m : Int).natAbs < 2 ^ 7 := by show _ < 128; omega
    exact Nat.lt_of_lt_of_le this (Nat.pow_le_pow_right (by decide) (by decide))
  have z1 := (sz_part m0 m1).mono (show 10 ≤ 3000 by decide)
  refine s_ret (De.eq (De.tupleL (K := K) (De.lcA (as := List.range m) (r := fun i : Nat => dat K (.int (i : Int))) (Di.rng (.var (Mo.mo e1.bb hv) rfl) (by omega)) (fun i => frD (lean1 m s i)) (by rw [List.length_range]; omega) fun i x Bn Hn _ sb _ hx => ⟨_, fun Q z => z, rfl, ?_⟩)) rfl) e1.bh fun v B H e hv => k v B H (e1.trans e) hv
  refine De.call (Rat.divInt 1 m, 1 + s * (sgn i : Rat)) (.cons (.var (Mo.mo sb h2) rfl) (.one ?_)) ⟨z1, (sz_one.add (zs.mul (sz_sgn i))).mono (by decide)⟩
  refine De.call ((1 : Rat), s * (sgn i : Rat)) (.cons (De.cstT c_ONE) (.one ?_)) ⟨sz_one.mono (by decide), (zs.mul (sz_sgn i)).mono (by decide)⟩
  refine De.call (s, (sgn i : Rat)) (.cons (.var (Mo.mo (e1.bb.trans sb) hv1) rfl) (.one ?_)) ⟨zs.mono (by decide), (sz_sgn i).mono (by decide)⟩
  exact De.call (sgn i) (.one (De.call (i : Int) (.one (.var hx rfl)) trivial)) trivial
theorem sc_lgcd : FnScope ["one", "other"] ["one", "other"] (defScope s_lgcd) := ⟨rfl, rfl, rfl, by decide +kernel, rfl, by decide +kernel, by decide +kernel⟩
theorem ok_lgcd (D : Def K mg "_law_gcd" s_lgcd ["one", "other"])  : Cal P w K mg base CX0 1 "_law_gcd" s_lgcd ["one", "other"] (sp_gcd K) := by
  refine D.ok sc_lgcd (fun vs H Q E h => ?_) (fun cdv f A outer s H vs Q E hr h => ?_)
  · exact pf_len h fun _ => rfl
  replace h := pf2 h
  obtain ⟨v, v1, B, ⟨a, b⟩, rfl, hB, hv, hv1, _, k⟩ := h
  refine ⟨_, (pss_cons (ps_while PassesOwn.never (pt_cmpR op_ne (pv 1) pe_int (nomark _)) (pss_one (ps_par (i := 0) (j := 1) rfl sc_lgcd.nd rfl rfl (by decide) rfl rfl (pa_cons (pv 1) (pa_cons (pe_op op_mod (pv 0) (pv 1)) pa_nil)) (by rfl))))
    (pss_one (ps_ret (pv 0)))), ?_⟩
  have hv := dat_int hv
  subst hv
  have hv1 := dat_int hv1
  subst hv1
  refine whileI (fun σ J => ∃ (x y : Nat) (B' : Hp), σ = [some (.int x), some (.int y)] ∧ Nat.gcd x y = Nat.gcd a b ∧ Ext B H B' J) (fun σ J => ∃ B' : Hp, σ = [some (.int (Nat.gcd a b : Nat)), some (.int 0)] ∧ Ext B H B' J)
    (fun σ _ => match σ with | [_, some (.int y)] => y.toNat | _ => 0) ⟨a, b, B, rfl, rfl, .refl hB⟩ ?_ ?_
  · rintro σ J ⟨B', rfl, e⟩
    exact s_ret (R := dat K (.int (Nat.gcd a b : Nat))) (.var (Dp.int _) rfl) e.bh fun v B H e' hv => k v B H (e.trans e') hv
  · rintro σ J ⟨x, y, B', rfl, g, e⟩ Y Z hY hZ
    refine (Dt.tB (K := K) (De.op (r := rNe) (.var (Dp.int (y : Int)) rfl) .int Rv.neI)) B' J (Same.refl _) e.bh _ fun B1 H1 e1 => ?_
    by_cases z : y = 0
    · subst z
      rw [Nat.gcd_zero_right] at g
      subst g
      exact hZ _ ⟨B1, rfl, e.trans e1⟩
    · rw [if_pos (by simp [z])]
      refine hY _ ?_
      refine ⟨_, rfl, _, rfl, _, rfl, _, _, rfl, rfl, (by show (0 : Int) < y; omega), _, _, rfl, ⟨y, x % y, B1, rfl, ?_, e.trans e1⟩, ?_⟩
      · rw [← g, Nat.gcd_comm y, ← Nat.gcd_rec, Nat.gcd_comm]
      · show ((x : Int) % (y : Int)).toNat < ((y : Nat) : Int).toNat
        have := Nat.mod_lt x (Nat.pos_of_ne_zero z)
        omega
theorem sc_lfrac : FnScope ["top", "bottom", "common"] ["top", "bottom"] (defScope s_lfrac) := ⟨rfl, rfl, rfl, by decide +kernel, rfl, by decide +kernel, by decide +kernel⟩
theorem ok_lfrac (D : Def K mg "_law_frac" s_lfrac ["top", "bottom"]) (C_lgcd : Cal P w K mg base CX0 1 "_law_gcd" s_lgcd ["one", "other"] (sp_gcd K)) (n_abs : mg "abs" = none) : Cal P w K mg base CX0 2 "_law_frac" s_lfrac ["top", "bottom"] (sp_frac K) := by
  refine D.ok sc_lfrac (fun vs H Q E h => ?_) (fun cdv f A outer s H vs Q E hr h => ?_)
  · exact pf_len h fun _ => rfl
  replace h := pf2 h
  obtain ⟨v, v1, B, ⟨t, b⟩, rfl, hB, hv, hv1, ⟨b0, lb⟩, k⟩ := h
  refine ⟨_, (pss_cons (ps_set (i := 2) sc_lfrac.nd rfl (Or.inl rfl) (pe_cal C_lgcd (hr.mono (by decide)) (by rfl) pass0 (pa_cons (pe_callB call_abs (by rfl) n_abs (by decide +kernel) (pa_cons (pv 0) pa_nil)) (pa_cons (pv 1) pa_nil))))
    (pss_one (ps_ret (pe_tup (pa_cons (pe_op op_fdivW (pv 0) (pv 2)) (pa_cons (pe_op op_fdivW (pv 1) (pv 2)) pa_nil)))))), ?_⟩
  have b0 : 0 < b := b0
  have lb : b.natAbs < 2 ^ 7000 := lb
  have hv := dat_int hv
  subst hv
  have hv1 := dat_int hv1
  subst hv1
  refine s_set (De.call (t.natAbs, b.natAbs) (.cons (De.abs (.var (Dp.int t) rfl)) (.one (.eq (.var (Dp.int b) rfl) (by simp; omega)))) trivial) hB fun v2 B1 H1 e1 h2 => ?_
  have gl : ((Nat.gcd t.natAbs b.natAbs : Nat) : Int).natAbs < 2 ^ 7000 := by
    rw [Int.natAbs_natCast]
    exact Nat.lt_of_le_of_lt (Nat.gcd_le_right _ (by omega)) lb
  have gp : (0 : Int) < ((Nat.gcd t.natAbs b.natAbs : Nat) : Int) := by have := gcd_pos (t := t) b0; omega
  obtain ⟨f1, f2⟩ := low_val t b b0
  refine s_ret (De.eq (De.tupI (K := K) (.cons (.op (.var (Dp.int _) rfl) (.var h2 rfl) (Rv.I (wide_div gp gl (by decide) (by decide)))) (.cons (.op (.var (Dp.int _) rfl) (.var h2 rfl) (Rv.I (wide_div gp gl (by decide) (by decide)))) .nil))) (e := frD (Rat.divInt t b)) ?_) e1.bh fun v B H e hv => k v B H (e1.trans e) hv
  unfold frD
  rw [← f1, ← f2]
theorem sc_lplus : FnScope ["one", "other"] ["one", "other"] (defScope s_lplus) := ⟨rfl, rfl, rfl, by decide +kernel, rfl, by decide +kernel, by decide +kernel⟩
theorem ok_lplus (D : Def K mg "_law_plus" s_lplus ["one", "other"]) (C_lfrac : Cal P w K mg base CX0 2 "_law_frac" s_lfrac ["top", "bottom"] (sp_frac K)) : Cal P w K mg base CX0 3 "_law_plus" s_lplus ["one", "other"] (spPlusD K) := by
  refine D.ok sc_lplus (fun vs H Q E h => ?_) (fun cdv f A outer s H vs Q E hr h => ?_)
  · exact pf_len h fun _ => rfl
  replace h := pf2 h
  obtain ⟨v, v1, B, ⟨p, q⟩, rfl, hB, hv, hv1, ⟨zp, zq⟩, k⟩ := h
  refine ⟨_, (pss_one (ps_ret (pe_cal C_lfrac (hr.mono (by decide)) (by rfl) pass0 (pa_cons (pe_op op_add (pe_op op_mulW (pe_ix ix_tup (pv 0) pe_int (fun _ _ => rfl)) (pe_ix ix_tup (pv 1) pe_int (fun _ _ => rfl))) (pe_op op_mulW (pe_ix ix_tup (pv 1) pe_int (fun _ _ => rfl)) (pe_ix ix_tup (pv 0) pe_int (fun _ _ => rfl)))) (pa_cons (pe_op op_mulW (pe_ix ix_tup (pv 0) pe_int (fun _ _ => rfl)) (pe_ix ix_tup (pv 1) pe_int (fun _ _ => rfl))) pa_nil))))), ?_⟩
  refine s_ret (De.eq (De.low (K := K) (.cons (De.cross (.var hv rfl) (.var hv1 rfl) (.var hv1 rfl) (.var hv rfl) zp zq) (.one (De.dens (.var hv rfl) (.var hv1 rfl) zp zq))) ?_ (dens_lt zp zq)) (by rw [add_val])) hB k
  exact dens_pos p q
theorem sc_ltimes : FnScope ["one", "other"] ["one", "other"] (defScope s_ltimes) := ⟨rfl, rfl, rfl, by decide +kernel, rfl, by decide +kernel, by decide +kernel⟩
theorem ok_ltimes (D : Def K mg "_law_times" s_ltimes ["one", "other"]) (C_lfrac : Cal P w K mg base CX0 2 "_law_frac" s_lfrac ["top", "bottom"] (sp_frac K)) : Cal P w K mg base CX0 3 "_law_times" s_ltimes ["one", "other"] (spTimesD K) := by
  refine D.ok sc_ltimes (fun vs H Q E h => ?_) (fun cdv f A outer s H vs Q E hr h => ?_)
  · exact pf_len h fun _ => rfl
  replace h := pf2 h
  obtain ⟨v, v1, B, ⟨p, q⟩, rfl, hB, hv, hv1, ⟨zp, zq⟩, k⟩ := h
  refine ⟨_, (pss_one (ps_ret (pe_cal C_lfrac (hr.mono (by decide)) (by rfl) pass0 (pa_cons (pe_op op_mulW (pe_ix ix_tup (pv 0) pe_int (fun _ _ => rfl)) (pe_ix ix_tup (pv 1) pe_int (fun _ _ => rfl))) (pa_cons (pe_op op_mulW (pe_ix ix_tup (pv 0) pe_int (fun _ _ => rfl)) (pe_ix ix_tup (pv 1) pe_int (fun _ _ => rfl))) pa_nil))))), ?_⟩
  refine s_ret (De.eq (De.low (K := K) (.cons (De.tops (.var hv rfl) (.var hv1 rfl) zp zq) (.one (De.dens (.var hv rfl) (.var hv1 rfl) zp zq))) ?_ (dens_lt zp zq)) (by rw [mul_val])) hB k
  exact dens_pos p q
end
end K47

set_option Elab.async false
set_option linter.all false
set_option maxRecDepth 100000
set_option maxHeartbeats 4000000
/-! the deal of a law: _law_deal, _law_any, _law_of. -/
namespace K47
open PySem PySem.Spec PyProof.Rows L2 Wb
theorem ints_dp {K : PySem.W.Frag} {H : Hp} : ∀ cs : List Int, DpAll K H (cs.map V.int) (cs.map PyData.int)
  | [] => .nil
  | z :: cs => .cons (.int z) (ints_dp cs)
theorem ints_lay : ∀ cs : List Int, PyData.canLayAll0 (cs.map PyData.int) = true
  | [] => by simp [PyData.canLayAll0]
  | z :: cs => by simp [PyData.canLayAll0, PyData.canLay0, ints_lay cs]
theorem ints_depth : ∀ cs : List Int, PyData.depthAll (cs.map PyData.int) = 0
  | [] => by simp [PyData.depthAll]
  | z :: cs => by simp [PyData.depthAll, PyData.depth, ints_depth cs]
theorem ints_shaped (cs : List Int) : SeqAt.shaped (.list (cs.map PyData.int)) = true := by
  show (PyData.canLay0 (.list (cs.map PyData.int)) && decide (PyData.depth (.list (cs.map PyData.int)) ≤ 64)) = true
  rw [Bool.and_eq_true]
  refine ⟨by simp only [PyData.canLay0]; exact ints_lay cs, decide_eq_true ?_⟩
  simp only [PyData.depth, ints_depth]
  omega
theorem ints_eqv (cs : List Int) : PyData.eqv (.list (cs.map PyData.int)) (.list []) = cs.isEmpty := by
  cases cs with
  | nil => simp [PyData.eqv, PyData.eqvAll]
  | cons z r => simp [PyData.eqv, PyData.eqvAll]

section
variable {P : Program} {w : World} {K : PySem.W.Frag} {mg : Str → Option Value} {base : Heap}
theorem scAny : FnScope ["deal", "bound", "rest"] ["deal", "bound"] (defScope s_any) := ⟨rfl, rfl, rfl, by decide +kernel, rfl, by decide +kernel, by decide +kernel⟩

/-- how many cells are left -/
def left (c : Addr) (H : Hp) : Nat := match H c with
  | some (.lst xs) => xs.length
  | _ => 0

theorem okf_any {f : Addr} {fd : FuncData} (F : Fun K "_law_any" "_law_any" s_any f fd) (noInt : mg "int" = none) : FnOk P w K mg base CX0 1 f fd ["deal", "bound"] spAny := by
  refine F.ok scAny (fun vs H Q E h => ?_) (fun cdv A outer s H vs Q E hr h => ?_)
  · obtain ⟨d, c, bound, rfl, _⟩ := h
    rfl
  obtain ⟨d, c, bound, rfl, D, b0, b1, k⟩ := h
  refine ⟨_, pss_cons (ps_while PassesOwn.never (PW.pt (pw_and (pt_cmpR (op_neD hr.units) (pe_ix ix_list (pv 0) pe_int (fun _ _ => rfl)) (pe_lst pa_nil) (nomark _))
        (pw_and1 (pt_cmpR op_eq (pe_ix ix_list (pe_ix ix_list (pv 0) pe_int (fun _ _ => rfl)) (pe_un un_neg pe_int) (fun _ _ => rfl)) pe_int (nomark _)))))
      (pss_one (ps_expr (pe_bm0 PySem.F.plainAttrs_list PySem.F.slot_list_pop PySem.F.type_list_pop mt_pop (pe_ix ix_list (pv 0) pe_int (fun _ _ => rfl))))))
    (pss_cons (ps_if (pt_cmpR (op_neD hr.units) (pe_ix ix_list (pv 0) pe_int (fun _ _ => rfl)) (pe_lst pa_nil) (nomark _))
      (pss_cons (ps_set (i := 2) scAny.nd rfl (Or.inl rfl) (pe_callTy call_int1 (by rfl) noInt (by decide +kernel) (pa_cons (pe_bm0 PySem.F.plainAttrs_list PySem.F.slot_list_pop PySem.F.type_list_pop mt_pop (pe_ix ix_list (pv 0) pe_int (fun _ _ => rfl))) pa_nil)))
      (pss_cons (ps_expr (pe_bm PySem.F.plainAttrs_list PySem.F.slot_list_append PySem.F.type_list_append mt_append (pe_ix ix_list (pv 0) pe_int (fun _ _ => rfl)) (pa_cons (pe_op op_fdivW (pv 2) (pv 1)) pa_nil)))
      (pss_one (ps_ret (pe_op op_mod (pv 2) (pv 1)))))) pss_nil)
    (pss_cons (ps_asg (pe_op op_mod (pe_callTy call_int1 (by rfl) noInt (by decide +kernel) (pa_cons (pe_op op_add (pe_op op_mul (pe_ix ix_list (pv 0) pe_int (fun _ _ => rfl)) pe_int) pe_int) pa_nil)) pe_int) (pg_sub (pv 0) pe_int set_list))
    (pss_one (ps_ret (pe_op op_mod (pe_callTy call_int1 (by rfl) noInt (by decide +kernel) (pa_cons (pe_op op_fdiv (pe_ix ix_list (pv 0) pe_int (fun _ _ => rfl)) pe_int) pa_nil)) (pv 1))))))  , ?_⟩
  -- the cells that are 0 go
  refine whileI (fun σ H' => σ = [some (.ref d), some (.int bound), none] ∧ Deal H' d c ∧ Same (off H d c) (off H' d c))
    (fun σ H' => σ = [some (.ref d), some (.int bound), none] ∧ Deal H' d c ∧ Same (off H d c) (off H' d c)) (fun _ H' => left c H') ⟨rfl, D, Same.refl _⟩ ?_ ?_
  · -- behind it
    rintro σ G ⟨rfl, D', S'⟩
    obtain ⟨cs, mix, h1, h2, short, nn, m0, m1⟩ := D'.ex
    refine ⟨_, rfl, d, [.ref c, .int mix], 0, .ref c, rfl, rfl, SqL.of h1, rfl, ?_⟩
    refine ⟨Nat.zero_le _, fun l hl => ?_⟩
    have Sl : Same G (upd G l (.lst [])) := new_same hl
    have D2 : Deal (upd G l (.lst [])) d c := D'.same Sl
    have S2 : Same (off H d c) (off (upd G l (.lst [])) d c) := S'.trans (off_mono Sl)
    have h1' := Sl _ _ h1
    have h2' := Sl _ _ h2
    have ne := D'.ne
    refine ⟨.list (cs.map PyData.int), .list [], .lst (SqL.of h2') (ints_dp cs), .lst (SqL.of upd_same) .nil, ints_shaped cs, rfl, _, rfl, ?_⟩
    rw [ints_eqv]
    generalize upd G l (.lst []) = G2 at *
    rcases nil_or_last cs with rfl | ⟨ini, z, rfl⟩
    · -- no cell: the number goes on
      refine iteF ?_
      refine ⟨_, rfl, d, [.ref c, .int mix], 1, .int mix, rfl, rfl, SqL.of h1', rfl, ?_⟩
      refine ⟨_, _, rfl, rfl, .inl ⟨by omega, by omega⟩, _, _, rfl, rfl, .inl ⟨_, rfl, ?_⟩⟩
      refine ⟨_, _, rfl, rfl, (by show (0 : Int) < 2147483647; decide), ?_⟩
      refine ⟨_, rfl, d, [.ref c, .int mix], 1, 1, rfl, rfl, h1', rfl, ?_⟩
      obtain ⟨mix2, hm⟩ : ∃ mix2, mix2 = (mix * 48271 + 83) % 2147483647 := ⟨_, rfl⟩
      have at2 : upd G2 d (.lst ([V.ref c, V.int mix].set 1 (V.int ((mix * 48271 + 83) % 2147483647)))) d = some (.lst [.ref c, .int mix2]) := by
        rw [upd_same, hm]
        rfl
      have q0 : 0 ≤ mix2 := by omega
      have q1 : mix2 < 2147483647 := by omega
      refine ⟨_, rfl, d, [.ref c, .int mix2], 1, .int mix2, rfl, rfl, SqL.of at2, rfl, ?_⟩
      refine ⟨_, _, rfl, rfl, ⟨by decide, by decide⟩, .inl ⟨_, rfl, ?_⟩⟩
      refine ⟨_, rfl, _, _, rfl, rfl, b0, ?_⟩
      refine k _ _ (Int.emod_nonneg _ (by omega)) (Int.emod_lt_of_pos _ b0) ⟨[], mix2, at2, ?_, short, nn, q0, q1⟩ ?_
      · show upd G2 d _ c = _
        rw [upd_ne ne.symm]
        exact h2'
      · show Same _ (off (upd G2 d _) d c)
        rw [off_d]
        exact S2
    · -- a cell
      have e : (ini ++ [z]).isEmpty = false := by simp
      rw [e]
      refine iteT ?_
      have em : (ini ++ [z]).map V.int = ini.map V.int ++ [V.int z] := by simp
      rw [em] at h2'
      have z0 : 0 ≤ z := nn z (by simp)
      refine ⟨_, rfl, d, [.ref c, .int mix], 0, .ref c, rfl, rfl, SqL.of h1', rfl, .inl ⟨rfl, _, SqL.of h2'⟩, c, _, .int z, rfl, rfl, h2', by simp, .inl ⟨_, rfl, ?_⟩⟩
      rw [List.dropLast_concat]
      refine ⟨_, rfl, d, [.ref c, .int mix], 0, .ref c, rfl, rfl, SqL.of ((upd_ne ne).trans h1'), rfl, .inl ⟨rfl, _, SqL.of upd_same⟩, ?_⟩
      refine ⟨_, rfl, _, rfl, _, _, rfl, rfl, ?_, c, _, _, rfl, rfl, upd_same, ?_, ?_⟩
      · exact wide_div b0 (b := 300) (by omega) (by decide) (by decide)
      · rw [List.length_map, sizeLine_eq]
        simp at short
        omega
      refine ⟨_, rfl, _, rfl, _, _, rfl, rfl, b0, ?_⟩
      refine k _ _ (Int.emod_nonneg _ (by omega)) (Int.emod_lt_of_pos _ b0) ⟨ini ++ [z / bound], mix, ?_, ?_, ?_, ?_, m0, m1⟩ ?_
      · rw [upd_ne ne, upd_ne ne]
        exact h1'
      · rw [upd_same]
        simp
      · simpa using short
      · intro y hy
        rcases List.mem_append.mp hy with h | h
        · exact nn y (List.mem_append_left _ h)
        · simp at h
          rw [h]
          exact Int.ediv_nonneg z0 (by omega)
      · rw [off_c, off_c]
        exact S2
  · -- a turn
    rintro σ H' ⟨rfl, D', S'⟩ Y Z hY hZ
    obtain ⟨cs, mix, h1, h2, short, nn, m0, m1⟩ := D'.ex
    refine ⟨_, rfl, d, [.ref c, .int mix], 0, .ref c, rfl, rfl, SqL.of h1, rfl, ?_⟩
    refine ⟨Nat.zero_le _, fun l hl => ?_⟩
    have Sl : Same H' (upd H' l (.lst [])) := new_same hl
    have D2 : Deal (upd H' l (.lst [])) d c := D'.same Sl
    have S2 : Same (off H d c) (off (upd H' l (.lst [])) d c) := S'.trans (off_mono Sl)
    have h1' := Sl _ _ h1
    have h2' := Sl _ _ h2
    have len2 : left c H' = cs.length := by
      unfold left
      rw [h2]
      simp
    refine ⟨.list (cs.map PyData.int), .list [], .lst (SqL.of h2') (ints_dp cs), .lst (SqL.of upd_same) .nil, ints_shaped cs, rfl, _, rfl, ?_⟩
    rw [ints_eqv]
    generalize upd H' l (.lst []) = G at *
    rcases nil_or_last cs with rfl | ⟨ini, z, rfl⟩
    · refine iteF (iteF ?_)
      exact hZ _ ⟨rfl, D2, S2⟩
    · have e : (ini ++ [z]).isEmpty = false := by simp
      rw [e]
      refine iteT ?_
      have em : (ini ++ [z]).map V.int = ini.map V.int ++ [V.int z] := by simp
      rw [em] at h2'
      refine ⟨_, rfl, d, [.ref c, .int mix], 0, .ref c, rfl, rfl, SqL.of h1', rfl, 1, rfl, c, ini.map V.int ++ [V.int z], -1, .int z, rfl, rfl, SqL.of h2', atI_last _ _, rfl, _, rfl, ?_⟩
      refine ite2 (fun hz => ?_) (fun hz => ?_)
      · refine hY _ ?_
        refine ⟨_, rfl, d, [.ref c, .int mix], 0, .ref c, rfl, rfl, SqL.of h1', rfl, .inl ⟨rfl, _, SqL.of h2'⟩, c, _, .int z, rfl, rfl, h2', by simp, ?_⟩
        have ne := D2.ne
        refine ⟨⟨rfl, ⟨ini, mix, ?_, ?_, ?_, fun y hy => nn y (List.mem_append_left _ hy), m0, m1⟩, ?_⟩, ?_⟩
        · rw [upd_ne ne]
          exact h1'
        · rw [upd_same, List.dropLast_concat]
        · simp at short
          omega
        · rw [off_c]
          exact S2
        · rw [len2]
          unfold left
          rw [upd_same, List.dropLast_concat]
          simp
      · exact hZ _ ⟨rfl, D2, S2⟩
end
section
variable {P : Program} {w : World} {K : PySem.W.Frag} {mg : Str → Option Value} {base : Heap}
theorem scSource : FnScope ["script", "base", "cells", "cell", "mix"] ["script", "base"] (defScope s_deal) := ⟨rfl, rfl, rfl, by decide +kernel, rfl, by decide +kernel, by decide +kernel⟩
theorem okf_deal {f : Addr} {fd : FuncData} (F : Fun K "_law_deal" "_law_deal" s_deal f fd) (noInt : mg "int" = none) (noAbs : mg "abs" = none) : FnOk P w K mg base CX0 1 f fd ["script", "base"] (spDeal K) := by
  refine F.ok scSource (fun vs H Q E h => ?_) (fun cdv A outer s H vs Q E hr h => ?_)
  · obtain ⟨a, ns, bs, rfl, _⟩ := h
    rfl
  obtain ⟨a, ns, bs, rfl, hs, few, b0, b1, k⟩ := h
  refine ⟨_, pss_cons (ps_setLc (i := 2) (own := [("cell", 3)]) (g := gName 3) (tt := tYes) rfl scSource.nd rfl rfl (sw_true rfl rfl rfl (by decide +kernel)) (pi_list (pe_slice sl_list (pv 0) po_none (po_some pe_int)))
      (blkOk_by (own := [("cell", 3)]) (N := ["script", "base", "cells", "cell", "mix"]) (sc := defScope s_deal) (by decide +kernel)) (fun _ _ _ _ _ => pg_name (i := 3) scSource.nd rfl (Or.inl rfl)) (fun _ _ _ _ _ => pts_nil)
      (fun _ _ _ _ _ => pe_callB call_abs (by rfl) noAbs (by decide +kernel) (pa_cons (pe_callTy call_int1 (by rfl) noInt (by decide +kernel) (pa_cons (pv 3) pa_nil)) pa_nil)))
    (pss_cons (ps_set (i := 4) scSource.nd rfl (Or.inl rfl) (pe_op op_add (pe_op op_mul pe_int (pv 1)) pe_int))
    (pss_cons (ps_for PassesOwn.never rfl (pi_list (pv 2)) (pg_name (i := 3) scSource.nd rfl (Or.inl rfl))
      (pss_one (ps_set (i := 4) scSource.nd rfl (Or.inl rfl) (pe_op op_mod (pe_callTy call_int1 (by rfl) noInt (by decide +kernel) (pa_cons (pe_op op_add (pe_op op_add (pe_op op_mul (pv 4) pe_int) (pe_op op_mod (pv 3) pe_int)) pe_int) pa_nil)) pe_int))))
    (pss_one (ps_ret (pe_lst (pa_cons (pe_revL (pe_lc (own := [("cell", 3)]) (g := gName 3) rfl scSource.nd (pi_list (pv 2))
      (blkOk_by (own := [("cell", 3)]) (N := ["script", "base", "cells", "cell", "mix"]) (sc := defScope s_deal) (by decide +kernel)) (fun _ _ _ _ _ => pg_name (i := 3) scSource.nd rfl (Or.inl rfl))
      (fun _ _ _ _ _ => pts_one (pt_cmpR op_ge (pv 3) (pe_op op_pow pe_int pe_int) (nomark _))) (fun _ _ _ _ _ => pv 3))) (pa_cons (pv 4) pa_nil))))))), ?_⟩
  -- the slice
  refine ⟨_, rfl, 63, rfl, a, ns.map V.int, rfl, hs, fun p hp => ?_⟩
  obtain ⟨ms, em, fewM⟩ : ∃ ms : List Int, cutV (ns.map V.int) none (some 63) = ms.map V.int ∧ ms.length ≤ 63 := by
    refine ⟨(ns.drop (HT.sIx (ns.map V.int).length 0 none)).take (HT.sIx (ns.map V.int).length (ns.map V.int).length (some 63) - HT.sIx (ns.map V.int).length 0 none), ?_, ?_⟩
    · unfold cutV
      rw [List.map_take, List.map_drop]
    · rw [List.length_take, List.length_drop]
      omega
  rw [em]
  have Sp : Same H (upd H p (.lst (ms.map V.int))) := new_same hp
  have atp : upd H p (.lst (ms.map V.int)) p = some (.lst (ms.map V.int)) := upd_same
  generalize upd H p (.lst (ms.map V.int)) = H1 at *
  refine ⟨p, rfl, ⟨_, SqL.of atp⟩, fun D hD => ?_⟩
  -- the cells
  refine lc_list (K := K) (a := p) (xs := ms.map V.int) (fun i G => ∃ acc : List Int, G D = some (.lst (acc.map V.int)) ∧ acc.length = i ∧ (∀ z ∈ acc, 0 ≤ z) ∧ Same H1 G)
    ⟨[], upd_same, rfl, (fun z hz => nomatch hz), new_same hD⟩ (fun i G _ ⟨_, _, _, _, sg⟩ => sg.seq (SqL.of atp)) ?_ ?_
  · rintro i x G hx ⟨acc, hG, hi, hnn, sg⟩
    have hi' : i < ms.length := by
      have := (List.getElem?_eq_some_iff.mp hx).1
      simpa using this
    obtain ⟨z, rfl⟩ : ∃ z, x = V.int z := by
      rw [List.getElem?_map] at hx
      obtain ⟨z, _, e⟩ := Option.map_eq_some_iff.mp hx
      exact ⟨z, e.symm⟩
    refine ⟨rfl, ?_⟩
    refine ⟨_, rfl, .inl ⟨z, rfl, z, rfl, acc.map V.int, hG, ?_, acc ++ [if z < 0 then -z else z], ?_, ?_, ?_, ?_⟩⟩
    · rw [List.length_map, sizeLine_eq]
      omega
    · rw [upd_same]
      simp
    · simp [hi]
    · intro y hy
      rcases List.mem_append.mp hy with q | q
      · exact hnn y q
      · simp at q
        rw [q]
        split <;> omega
    · intro b' o e
      rw [upd_ne (ne_of_none e hD)]
      exact sg b' o e
  rintro G ⟨acc, hG, hi, hnn, sg⟩
  rw [List.length_map] at hi
  -- the first number
  refine ⟨_, rfl, _, _, rfl, rfl, .inl ⟨by decide, by decide⟩, _, _, rfl, rfl, _, rfl, D, rfl, ⟨_, SqL.of hG⟩, for_list (K := K) (a := D) (xs := acc.map V.int) (fun i σ G' => ∃ (mix : Int) (v : Option V), σ = [some (.ref a), some (.int bs), some (.ref D), v, some (.int mix)] ∧ 0 ≤ mix ∧ mix < 2147483647 ∧ G' = G)
    ⟨_, none, rfl, by omega, by omega, rfl⟩ (fun i σ G' _ ⟨_, _, _, _, _, e⟩ => by rw [e]; exact SqL.of hG) ?_ ?_⟩
  · rintro i y σ G' hy ⟨mix, v, rfl, q0, q1, rfl⟩
    obtain ⟨z, rfl⟩ : ∃ z, y = V.int z := by
      rw [List.getElem?_map] at hy
      obtain ⟨z, _, e⟩ := Option.map_eq_some_iff.mp hy
      exact ⟨z, e.symm⟩
    refine ⟨_, rfl, _, _, rfl, rfl, .inl ⟨by omega, by omega⟩, _, rfl, _, _, rfl, rfl, (by show (0 : Int) < 2147483579; decide), _, _, rfl, rfl, _, _, rfl, rfl, .inl ⟨_, rfl, ?_⟩⟩
    refine ⟨_, _, rfl, rfl, (by show (0 : Int) < 2147483647; decide), ?_⟩
    exact ⟨_, _, rfl, Int.emod_nonneg _ (by decide), Int.emod_lt_of_pos _ (by decide), rfl⟩
  rintro σ G' ⟨mix, v, rfl, q0, q1, rfl⟩
  -- the great cells, turned
  refine ⟨_, rfl, D, rfl, ⟨_, SqL.of hG⟩, fun D2 hD2 => ?_⟩
  refine lc_list (K := K) (a := D) (xs := acc.map V.int) (fun i G2 => ∃ big : List Int, G2 D2 = some (.lst (big.map V.int)) ∧ big.length ≤ i ∧ (∀ z ∈ big, 0 ≤ z) ∧ Same G' G2)
    ⟨[], upd_same, Nat.le_refl _, (fun z hz => nomatch hz), new_same hD2⟩ (fun i G2 _ ⟨_, _, _, _, s2⟩ => s2.seq (SqL.of hG)) ?_ ?_
  · rintro i x G2 hx ⟨big, hB, hl, hbn, s2⟩
    have hx2 := hx
    have hi' : i < acc.length := by
      have := (List.getElem?_eq_some_iff.mp hx).1
      simpa using this
    obtain ⟨z, hz, rfl⟩ : ∃ z, z ∈ acc ∧ x = V.int z := by
      rw [List.getElem?_map] at hx
      obtain ⟨z, hz, e⟩ := Option.map_eq_some_iff.mp hx
      exact ⟨z, List.mem_of_getElem? hz, e.symm⟩
    refine ⟨rfl, _, rfl, _, _, rfl, rfl, ⟨by decide, by decide, by decide⟩, _, _, rfl, rfl, _, rfl, ?_⟩
    refine ite2 (fun _ => ?_) (fun _ => ?_)
    · refine ⟨_, rfl, big.map V.int, hB, ?_, big ++ [z], ?_, ?_, ?_, ?_⟩
      · rw [List.length_map, sizeLine_eq]
        omega
      · rw [upd_same]
        simp
      · simp
        omega
      · intro y hy
        rcases List.mem_append.mp hy with q | q
        · exact hbn y q
        · simp at q
          rw [q]
          exact hnn z hz
      · intro b' o e
        rw [upd_ne (ne_of_none e hD2)]
        exact s2 b' o e
    · exact ⟨big, hB, by omega, hbn, s2⟩
  rintro G2 ⟨big, hB, hl, hbn, s2⟩
  rw [List.length_map] at hl
  refine ⟨D2, _, rfl, SqL.of hB, fun c hc => ?_⟩
  have Sc : Same G2 (upd G2 c (.lst (big.map V.int).reverse)) := new_same hc
  have atc : upd G2 c (.lst (big.map V.int).reverse) c = some (.lst (big.reverse.map V.int)) := by rw [upd_same, List.map_reverse]
  generalize upd G2 c (.lst (big.map V.int).reverse) = G3 at *
  refine ⟨_, rfl, (by show 2 ≤ sizeLine; decide), fun d hd => ?_⟩
  have S3 : Same H G3 := ((Sp.trans sg).trans s2).trans Sc
  have S4 : Same G3 (upd G3 d (.lst [.ref c, .int mix])) := new_same hd
  refine k d c _ (S3.free hd) (((Sp.trans sg).trans s2).free hc) ⟨big.reverse, mix, upd_same, S4 _ _ atc, ?_, ?_, q0, q1⟩ (S3.trans S4)
  · simp
    omega
  · intro z hz
    exact hbn z (List.mem_reverse.mp hz)
end
section
variable {P : Program} {w : World} {K : PySem.W.Frag} {mg : Str → Option Value} {base : Heap}
theorem ok_any (D : Def K mg "_law_any" s_any ["deal", "bound"]) (n_int : mg "int" = none) : Cal P w K mg base CX0 1 "_law_any" s_any ["deal", "bound"] spAny := by
  obtain ⟨f, fd, F, m, b, o⟩ := D
  exact ⟨f, fd, okf_any F n_int, m, F.kp, b, o⟩
theorem ok_deal (D : Def K mg "_law_deal" s_deal ["script", "base"]) (n_int : mg "int" = none) (n_abs : mg "abs" = none) : Cal P w K mg base CX0 1 "_law_deal" s_deal ["script", "base"] (spDeal K) := by
  obtain ⟨f, fd, F, m, b, o⟩ := D
  exact ⟨f, fd, okf_deal F n_int n_abs, m, F.kp, b, o⟩
end
end K47

set_option Elab.async false
set_option linter.all false
set_option maxRecDepth 100000
set_option maxHeartbeats 4000000
/-! K47b: the law's own signs and rows. -/
namespace K47
open PySem PySem.Spec PyProof.Rows L2 Wb Wv Wf Fq
/-- {0: 1, 1: -1}.get(n, 0) -/
theorem De.signs {K : PySem.W.Frag} {σ : L2.St} {B : Hp} {ty : TE} {n : Int} (h : De ty σ B (dat K (.int n))) :
    De (tDGet2 (tDisp [(tC (.int 0), tC (.int 1)), (tC (.int 1), tUn (rU fun i => .int (-i)) (tC (.int 1)))]) ty (tC (.int 0))) σ B (dat K (.int (sgn n))) := fun B1 H s1 s2 Q q => by
  intro p hp
  refine ⟨1, rfl, upd_same, [(.inl 0, .int 1), (.inl 1, .int (-1))], rfl, by decide, p, rfl, .inl ⟨_, .inl upd_same⟩, ?_⟩
  have e1 : Ext B1 H B1 (upd H p (.dK [])) := .own s2 hp
  have e2 : Ext B1 H B1 (upd (upd H p (.dK [])) p (.dK (mergeK [] [(.inl 0, .int 1), (.inl 1, .int (-1))]))) := by
    rw [upd_upd]
    exact .own s2 hp
  refine h B1 _ s1 e2.bh _ fun y B2 H2 e3 hy => ?_
  have hy := dat_int hy
  subst hy
  have at2 := e3.hh p _ upd_same
  refine ⟨_, .k (k := .inl n) at2, ?_⟩
  have e : ((valV (mergeK [] [((Sum.inl 0 : Key), V.int 1), (.inl 1, .int (-1))]) (.inl n)).getD (.int 0)) = .int (sgn n) := by
    show ((valV [((Sum.inl 0 : Key), V.int 1), (.inl 1, .int (-1))] (.inl n)).getD (.int 0)) = .int (sgn n)
    unfold sgn
    by_cases a : n = 0
    · subst a
      rfl
    · rw [if_neg a, valV_neg (by intro z; exact a (Sum.inl.inj z).symm)]
      by_cases b : n = 1
      · subst b
        rfl
      · rw [if_neg b, valV_neg (by intro z; exact b (Sum.inl.inj z).symm)]
        rfl
  rw [e]
  exact q _ B2 H2 (e2.trans e3) (.int _)
section
variable {P : Program} {w : World} {K : PySem.W.Frag} {mg : Str → Option Value} {base : Heap} {C_InvalidSize C_BlankError a_ONE : Addr}
theorem sc_lsign : FnScope ["value"] ["value"] (defScope s_lsign) := ⟨rfl, rfl, rfl, by decide +kernel, rfl, by decide +kernel, by decide +kernel⟩
theorem ok_lsign (D : Def K mg "_law_sign" s_lsign ["value"])  : Cal P w K mg base CX0 1 "_law_sign" s_lsign ["value"] (spSignV K) := by
  refine D.ok sc_lsign (fun vs H Q E h => ?_) (fun cdv f A outer s H vs Q E hr h => ?_)
  · exact pf_len h fun _ => rfl
  replace h := pf1 h
  obtain ⟨v, B, n, rfl, hB, hv, _, k⟩ := h
  refine ⟨_, (pss_one (ps_ret (pe_dget2 hr.u1 (pe_disp (pps_cons pe_int pe_int (pps_cons pe_int (pe_un un_neg pe_int) pps_nil)) rfl rfl (by simp) (by decide)) (pv 0) pe_int ⟨rfl, rfl, rfl, rfl⟩))), ?_⟩
  exact s_ret (De.signs (K := K) (.var hv rfl)) hB k
theorem sc_lleaned : FnScope ["many", "strength", "value"] ["many", "strength"] (defScope s_lleaned) := ⟨rfl, rfl, rfl, by decide +kernel, rfl, by decide +kernel, by decide +kernel⟩
theorem ok_lleaned (D : Def K mg "_law_leaned" s_lleaned ["many", "strength"]) (n_range : mg "range" = none) (C_ltimes : Cal P w K mg base CX0 3 "_law_times" s_ltimes ["one", "other"] (spTimesD K)) (C_lplus : Cal P w K mg base CX0 3 "_law_plus" s_lplus ["one", "other"] (spPlusD K)) (C_lsign : Cal P w K mg base CX0 1 "_law_sign" s_lsign ["value"] (spSignV K)) (n_tuple : mg "tuple" = none) : Cal P w K mg base CX0 4 "_law_leaned" s_lleaned ["many", "strength"] (spLeaned K) := by
  refine D.ok sc_lleaned (fun vs H Q E h => ?_) (fun cdv f A outer s H vs Q E hr h => ?_)
  · exact pf_len h fun _ => rfl
  replace h := pf2 h
  obtain ⟨v, v1, B, ⟨m, s⟩, rfl, hB, hv, hv1, ⟨m0, m1, zs⟩, k⟩ := h
  refine ⟨_, (pss_one (ps_ret (pe_callTy call_tuple_of (by rfl) n_tuple (by decide +kernel) (pa_cons (pe_lc (own := [("value", 2)]) (g := gName 2) (tt := tYes) rfl sc_lleaned.nd (pi_range1 rfl n_range (pa_cons (pv 0) pa_nil)) (blkOk_by (own := [("value", 2)]) (N := ["many", "strength", "value"]) (sc := defScope s_lleaned) (by decide +kernel)) (fun _ _ _ _ _ => (pg_name (i := 2) sc_lleaned.nd rfl (Or.inl rfl))) (fun _ _ _ _ _ => pts_nil) (fun _ _ _ _ _ => (pe_cal C_ltimes (hr.mono (by decide)) (by rfl) pass0 (pa_cons (pe_tup (pa_cons pe_int (pa_cons (pv 0) pa_nil))) (pa_cons (pe_cal C_lplus (hr.mono (by decide)) (by rfl) pass0 (pa_cons (pe_tup (pa_cons pe_int (pa_cons pe_int pa_nil))) (pa_cons (pe_cal C_ltimes (hr.mono (by decide)) (by rfl) pass0 (pa_cons (pv 1) (pa_cons (pe_tup (pa_cons (pe_cal C_lsign (hr.mono (by decide)) (by rfl) pass0 (pa_cons (pv 2) pa_nil)) (pa_cons pe_int pa_nil))) pa_nil))) pa_nil))) pa_nil))))) pa_nil)))), ?_⟩
  have m0 : 0 < m := m0
  have m1 : m ≤ 100 := m1
  have zs : Sz 100 s := zs
  have line := sizeLine_eq
  have z1 := (sz_part m0 m1).mono (show 10 ≤ 3000 by decide)
  have part : frD (Rat.divInt 1 m) = .tuple [.int 1, .int m] := by
    unfold frD
    have g : Int.gcd 1 m = 1 := Int.one_gcd
    have e1 : (Rat.divInt 1 m).num = 1 := by rw [Rat.num_divInt, Int.gcd_comm, g, Int.sign_eq_one_of_pos (by omega)]; rfl
    have e2 : (Rat.divInt 1 m).den = m := by rw [Rat.den_divInt, if_neg (by omega), Int.gcd_comm, g]; simp
    rw [e1, e2]
  refine s_ret (De.eq (De.tupleL (K := K) (De.lcA (as := List.range m) (r := fun i : Nat => dat K (.int (i : Int))) (Di.rng (.var hv rfl) (by omega)) (fun i => frD (lean1 m s i)) (by rw [List.length_range]; omega) fun i x Bn Hn _ sb _ hx => ⟨_, fun Q z => z, rfl, ?_⟩)) rfl) hB k
  refine De.call (Rat.divInt 1 m, 1 + s * (sgn i : Rat)) (.cons (.eq (De.tupI (.cons .int (.cons (.var (Mo.mo sb hv) rfl) .nil))) part.symm) (.one ?_)) ⟨z1, (sz_one.add (zs.mul (sz_sgn i))).mono (by decide)⟩
  refine De.call ((1 : Rat), s * (sgn i : Rat)) (.cons (De.tupI (.cons .int (.cons .int .nil))) (.one ?_)) ⟨sz_one.mono (by decide), (zs.mul (sz_sgn i)).mono (by decide)⟩
  refine De.call (s, (sgn i : Rat)) (.cons (.var (Mo.mo sb hv1) rfl) (.one ?_)) ⟨zs.mono (by decide), (sz_sgn i).mono (by decide)⟩
  exact De.tupI (.cons (De.call (i : Int) (.one (.var hx rfl)) trivial) (.cons .int .nil))
end
end K47

set_option Elab.async false
set_option linter.all false
set_option maxRecDepth 100000
set_option maxHeartbeats 4000000
/-! K47d: the law itself. -/
namespace K47
open PySem PySem.Spec PyProof.Rows L2 Wb Wv Wf Fq
theorem sum_snoc (f : Nat → Rat) (k : Nat) : sumR ((List.range (k + 1)).map f) = sumR ((List.range k).map f) + f k := by
  rw [List.range_succ, List.map_append]
  exact sumR_snoc _ _
/-- the signs of all values sum to 0 -/
theorem sgn_sum (m : Nat) (h : 2 ≤ m) : ((List.range m).map fun i : Nat => sgn (i : Int)).sum = 0 := by
  obtain ⟨k, rfl⟩ := Nat.exists_eq_add_of_le h
  induction k with
  | zero => decide
  | succ k ih =>
    have e : 2 + (k + 1) = (2 + k) + 1 := by omega
    rw [e, List.range_succ, List.map_append, List.sum_append, ih (by omega)]
    have : sgn (2 + (k : Int)) = 0 := by
      unfold sgn
      rw [if_neg (by omega), if_neg (by omega)]
    simp [this]
theorem lean_sum (m : Nat) (s : Rat) : ∀ k : Nat, sumR ((List.range k).map (lean1 m s)) = Rat.divInt 1 m * ((k : Rat) + s * ((((List.range k).map fun i : Nat => sgn (i : Int)).sum : Int) : Rat))
  | 0 => by
    show (0 : Rat) = Rat.divInt 1 m * (((0 : Nat) : Rat) + s * ((0 : Int) : Rat))
    have e : ((0 : Nat) : Rat) + s * ((0 : Int) : Rat) = 0 := by grind
    rw [e, Rat.mul_zero]
  | k + 1 => by
    rw [sum_snoc, lean_sum m s k, List.range_succ, List.map_append, List.sum_append]
    unfold lean1
    simp only [List.map_cons, List.map_nil, List.sum_cons, List.sum_nil, Int.add_zero]
    rw [Rat.intCast_add]
    have e : ((k + 1 : Nat) : Rat) = (k : Rat) + 1 := by simp
    rw [e]
    grind
theorem lean_total {m : Nat} (s : Rat) (h : 2 ≤ m) : sumR ((List.range m).map (lean1 m s)) = 1 := by
  rw [lean_sum, sgn_sum m h]
  have e : Rat.divInt 1 m = 1 / (m : Rat) := by
    rw [Rat.divInt_eq_div]
    rfl
  have n : (m : Rat) ≠ 0 := by
    intro z
    have : m = 0 := by exact_mod_cast z
    omega
  have z : (m : Rat) + s * ((0 : Int) : Rat) = m := by grind
  rw [e, z, Rat.div_def, Rat.one_mul]
  exact Rat.inv_mul_cancel _ n
theorem lean_nn {m : Nat} {s : Rat} (h : 2 ≤ m) (h1 : -1 ≤ s) (h2 : s ≤ 1) (i : Nat) : 0 ≤ lean1 m s i := by
  unfold lean1
  have a : (0 : Rat) ≤ Rat.divInt 1 m := by
    rw [Rat.divInt_nonneg_iff_of_pos_right (by omega)]
    decide
  have b : (0 : Rat) ≤ 1 + s * (sgn i : Rat) := by
    unfold sgn
    split
    · simp; grind
    · split
      · simp; grind
      · have : (1 : Rat) + s * ((0 : Int) : Rat) = 1 := by grind
        rw [this]
        decide
  exact Rat.mul_nonneg a b
theorem num_nn {q : Rat} (h : 0 ≤ q) : ¬ q.num < 0 := by
  have := Rat.num_nonneg.mpr h
  omega
/-- a drawn strength -/
theorem strength_ok {t b : Int} (b0 : 0 < b) (h1 : -b ≤ t) (h2 : t ≤ b) : -1 ≤ Rat.divInt t b ∧ Rat.divInt t b ≤ 1 := by
  have nz : b ≠ 0 := by omega
  have one : Rat.divInt b b = 1 := Rat.divInt_self' nz
  have p1 : Rat.divInt (t + b) b = Rat.divInt t b + 1 := by rw [add_parts nz, one]
  have p2 : Rat.divInt ((b - t) + t) b = Rat.divInt (b - t) b + Rat.divInt t b := add_parts nz
  rw [show (b - t) + t = b by omega, one] at p2
  have n1 : 0 ≤ Rat.divInt (t + b) b := (Rat.divInt_nonneg_iff_of_pos_right b0).mpr (by omega)
  have n2 : 0 ≤ Rat.divInt (b - t) b := (Rat.divInt_nonneg_iff_of_pos_right b0).mpr (by omega)
  generalize Rat.divInt t b = q at *
  generalize Rat.divInt (t + b) b = q1 at *
  generalize Rat.divInt (b - t) b = q2 at *
  constructor <;> grind
theorem shw_sgn (n : Int) : Shw (.int (sgn n)) := by
  refine (tb_int ?_).shw
  have : (sgn n).natAbs < 2 ^ 2 := by
    show _ < 4
    unfold sgn
    split
    · decide
    · split <;> decide
  exact Nat.lt_of_lt_of_le this (Nat.pow_le_pow_right (by decide) (by decide))
theorem sz_sums {m : Nat} {s : Rat} (h : ∀ i, Sz 200 (lean1 m s i)) : ∀ k : Nat, k ≤ 5 → Sz 3000 (sumR ((List.range k).map (lean1 m s))) := by
  have go : ∀ k : Nat, Sz (201 * k + 2) (sumR ((List.range k).map (lean1 m s))) := by
    intro k
    induction k with
    | zero =>
      show Sz 2 0
      exact ⟨by decide, by decide⟩
    | succ k ih =>
      rw [sum_snoc]
      exact (ih.add (h k)).mono (by omega)
  intro k hk
  exact (go k).mono (by omega)
theorem lean_shw {m : Nat} {s : Rat} (h0 : 0 < m) (h : m ≤ 100) (hs : Sz 100 s) : Shw (leanD m s) := by
  refine ((TbAll.of (n := 1) (W := 2) (es := (List.range m).map fun i => frD (lean1 m s i)) fun e he => ?_).tuple).shw (by decide) ?_
  · obtain ⟨i, _, rfl⟩ := List.mem_map.mp he
    exact frD_tb (sz_lean h0 h hs i) (by decide)
  · rw [List.length_map, List.length_range]
    omega
section
variable {P : Program} {w : World} {K : PySem.W.Frag} {mg : Str → Option Value} {base : Heap} {C_InvalidSize C_BlankError a_ONE : Addr}
theorem kw_leaned_01 : Kw "leaned_row" s_leaned ["many", "strength"] ["many", "strength"] [0, 1] := ⟨rfl, fun _ _ _ _ _ _ _ ws hl => match ws, hl with | [_, _], _ => .of_eq rfl⟩
theorem kw_sign : Kw "sign" s_sign ["value"] ["value"] [0] := ⟨rfl, fun _ _ _ _ _ _ _ ws hl => match ws, hl with | [_], _ => .of_eq rfl⟩
theorem sc_law : FnScope ["script", "deal", "turn", "many", "bottom", "strength", "told", "total", "share", "value", "one"] ["script"] (defScope s_law) := ⟨rfl, rfl, rfl, by decide +kernel, rfl, by decide +kernel, by decide +kernel⟩
theorem ok_law (D : Def K mg "law" s_law ["script"]) (C_deal : Cal P w K mg base CX0 1 "_law_deal" s_deal ["script", "base"] (spDeal K)) (n_range : mg "range" = none) (C_any : Cal P w K mg base CX0 1 "_law_any" s_any ["deal", "bound"] spAny) (C_lfrac : Cal P w K mg base CX0 2 "_law_frac" s_lfrac ["top", "bottom"] (sp_frac K)) (C_leaned : Cal P w K mg base CX0 5 "leaned_row" s_leaned ["many", "strength"] (spLeaned K)) (n_repr : mg "repr" = none) (C_lleaned : Cal P w K mg base CX0 4 "_law_leaned" s_lleaned ["many", "strength"] (spLeaned K)) (C_lplus : Cal P w K mg base CX0 3 "_law_plus" s_lplus ["one", "other"] (spPlusD K)) (C_sign : Cal P w K mg base CX0 1 "sign" s_sign ["value"] (spSignV K)) (C_lsign : Cal P w K mg base CX0 1 "_law_sign" s_lsign ["value"] (spSignV K)) (n_sum : mg "sum" = none) : CalG P w K mg base CX0 6 "law" s_law ["script"] (Wb.spLaw K) := by
  refine D.okG sc_law (fun vs H Q E h => ?_) (fun cdv f A outer s H vs Q E gd hr h => ?_)
  · obtain ⟨a, ns, rfl, _⟩ := h
    rfl
  obtain ⟨a, ns, rfl, hs, few, k⟩ := h
  refine ⟨_, (pss_cons (ps_set (i := 1) sc_law.nd rfl (Or.inl rfl) (pe_cal C_deal (hr.mono (by decide)) (by rfl) pass0 (pa_cons (pv 0) (pa_cons pe_int pa_nil))))
    (pss_cons (ps_for PassesOwn.leaving rfl (pi_range1 rfl n_range (pa_cons pe_int pa_nil)) (pg_name (i := 2) sc_law.nd rfl (Or.inl rfl)) (pss_cons (ps_par (i := 3) (j := 4) rfl sc_law.nd rfl rfl (by decide) rfl rfl (pa_cons (pe_op op_add pe_int (pe_cal C_any (hr.mono (by decide)) (by rfl) pass0 (pa_cons (pv 1) (pa_cons pe_int pa_nil)))) (pa_cons (pe_op op_add pe_int (pe_cal C_any (hr.mono (by decide)) (by rfl) pass0 (pa_cons (pv 1) (pa_cons pe_int pa_nil)))) pa_nil)) (by rfl))
      (pss_cons (ps_set (i := 5) sc_law.nd rfl (Or.inl rfl) (pe_cal C_lfrac (hr.mono (by decide)) (by rfl) pass0 (pa_cons (pe_op op_sub (pe_cal C_any (hr.mono (by decide)) (by rfl) pass0 (pa_cons (pv 1) (pa_cons (pe_op op_add (pe_op op_mul pe_int (pv 4)) pe_int) pa_nil))) (pv 4)) (pa_cons (pv 4) pa_nil))))
      (pss_cons (ps_set (i := 6) sc_law.nd rfl (Or.inl rfl) (pe_calK C_leaned (hr.mono (by decide)) (by rfl) pass0 kw_leaned_01 (pk_cons (pv 3) (pk_cons (pv 5) pk_nil))))
      (pss_cons (ps_if (pt_cmpR op_ne (pe_callB (call_show gd hr.units) (by rfl) n_repr (by decide +kernel) (pa_cons (pv 6) pa_nil)) (pe_callB (call_show gd hr.units) (by rfl) n_repr (by decide +kernel) (pa_cons (pe_cal C_lleaned (hr.mono (by decide)) (by rfl) pass0 (pa_cons (pv 3) (pa_cons (pv 5) pa_nil))) pa_nil)) (nomark _)) (pss_one (ps_ret pe_bl)) pss_nil)
      (pss_cons (ps_set (i := 7) sc_law.nd rfl (Or.inl rfl) (pe_tup (pa_cons pe_int (pa_cons pe_int pa_nil))))
      (pss_cons (ps_for PassesOwn.leaving rfl (pi_tup (pv 6)) (pg_name (i := 8) sc_law.nd rfl (Or.inl rfl)) (pss_cons (ps_if (pt_cmpR op_lt (pe_ix ix_tup (pv 8) pe_int (fun _ _ => rfl)) pe_int (nomark _)) (pss_one (ps_ret pe_bl)) pss_nil)
        (pss_one (ps_set (i := 7) sc_law.nd rfl (Or.inl rfl) (pe_cal C_lplus (hr.mono (by decide)) (by rfl) pass0 (pa_cons (pv 7) (pa_cons (pv 8) pa_nil)))))))
      (pss_cons (ps_set (i := 9) sc_law.nd rfl (Or.inl rfl) (pe_cal C_any (hr.mono (by decide)) (by rfl) pass0 (pa_cons (pv 1) (pa_cons pe_int pa_nil))))
      (pss_one (ps_if (PW.pt (pw_or (pt_cmpR (op_neD hr.units) (pv 7) (pe_tup (pa_cons pe_int (pa_cons pe_int pa_nil))) (nomark _)) (pw_or (pt_cmpR op_ne (pe_callB (call_show gd hr.units) (by rfl) n_repr (by decide +kernel) (pa_cons (pe_calK C_sign (hr.mono (by decide)) (by rfl) pass0 kw_sign (pk_cons (pv 9) pk_nil)) pa_nil)) (pe_callB (call_show gd hr.units) (by rfl) n_repr (by decide +kernel) (pa_cons (pe_cal C_lsign (hr.mono (by decide)) (by rfl) pass0 (pa_cons (pv 9) pa_nil)) pa_nil)) (nomark _)) (pw_or1 (pt_cmpR op_ne (pe_callB (cr_sum rfl) (by rfl) n_sum (by decide +kernel) (pa_cons (pe_lc (own := [("one", 10)]) (g := gName 10) (tt := tYes) rfl sc_law.nd (pi_range1 rfl n_range (pa_cons (pv 3) pa_nil)) (blkOk_by (own := [("one", 10)]) (N := ["script", "deal", "turn", "many", "bottom", "strength", "told", "total", "share", "value", "one"]) (sc := defScope s_law) (by decide +kernel)) (fun _ _ _ _ _ => (pg_name (i := 10) sc_law.nd rfl (Or.inl rfl))) (fun _ _ _ _ _ => pts_nil) (fun _ _ _ _ _ => (pe_cal C_sign (hr.mono (by decide)) (by rfl) pass0 (pa_cons (pv 10) pa_nil)))) pa_nil)) pe_int (nomark _)))))) (pss_one (ps_ret pe_bl)) pss_nil))))))))))
    (pss_one (ps_ret pe_bl)))), ?_⟩
  have line := sizeLine_eq
  refine ⟨_, rfl, a, ns, 47, rfl, hs, few, by decide, by decide, fun d c H1 _ _ D1 _ => ?_⟩
  clear hs few
  have L : Dl (off H1 d c) H1 d c := ⟨D1, Same.refl _⟩
  generalize off H1 d c = B1 at L
  refine s_forD L (.refl L) (Di.rng (K := K) (n := 6) .int (by decide)) (fun i σ B H => ∃ v2 v3 v4 v5 v6 v7 v8 v9 v10, σ = [some (.ref a), some (.ref d), v2, v3, v4, v5, v6, v7, v8, v9, v10]) (fun B H e => ⟨_, _, _, _, _, _, _, _, _, rfl⟩) ?_ ?_
  · rintro B2 i R x σ' Bc Hc Bn Hn s2 hR eB sB ⟨v2, v3, v4, v5, v6', v7', v8, v9', v10, rfl⟩ eN hx
    have eD := eB.trans L eN
    refine s_parR (r_op (c_any (K := K) eD.dl rfl .int (by decide) (by decide) fun r1 B3 H3 r10 r11 e3 => ⟨_, _, rfl, rfl, r_op (c_any (K := K) e3.dl rfl .int (by decide) (by decide) fun r2 B4 H4 r20 r21 e4 => ⟨_, _, rfl, rfl, ?_⟩)⟩))
    obtain ⟨m, hm⟩ : ∃ m : Nat, 2 + r1 = (m : Int) := ⟨(2 + r1).toNat, by omega⟩
    obtain ⟨b, hb⟩ : ∃ b : Int, 1 + r2 = b := ⟨_, rfl⟩
    change tSeq _ _ _ [some (.ref a), some (.ref d), some x, some (.int (2 + r1)), some (.int (1 + r2)), v5, v6', v7', v8, v9', v10] H4
    rw [hm, hb]
    have m2 : 2 ≤ m := by omega
    have m5 : m ≤ 5 := by omega
    have b0 : 0 < b := by omega
    have b9 : b ≤ 9 := by omega
    have eD4 := (eD.trans L e3).trans L e4
    clear hm hb r10 r11 r20 r21 hx
    refine s_raw (r_op (c_any (K := K) e4.dl rfl (De.op (.op .int (.var (Dp.int b) rfl) (Rv.I (.inl ⟨by decide, by decide⟩))) .int Rv.I0) (by omega) (by omega) fun r3 B5 H5 r30 r31 e5 => ⟨_, rfl, _, _, rfl, rfl, _, rfl, B5, (r3 - b, b), e5.bh, ⟨_, _, rfl, .int _, _, _, rfl, .int _, rfl⟩, ⟨b0, ?_⟩, fun v6 B6 H6 e6 h6 => ?_⟩))
    · have : b.natAbs < 2 ^ 7 := by show _ < 128; omega
      exact Nat.lt_of_lt_of_le this (Nat.pow_le_pow_right (by decide) (by decide))
    have eD6 := (eD4.trans L e5).trans L (.of e5.dl e6)
    obtain ⟨lo, hi⟩ := strength_ok (t := r3 - b) b0 (by omega) (by omega)
    have zs : Sz 100 (Rat.divInt (r3 - b) b) := (sz_divInt (k := 7) (by omega) (by show (r3 - b).natAbs < 128; omega) (by show b.natAbs < 128; omega)).mono (by decide)
    have h6 : dat K (frD (Rat.divInt (r3 - b) b)) B6 v6 := h6
    generalize Rat.divInt (r3 - b) b = q at h6 lo hi zs
    have pre : 0 < m ∧ m ≤ 100 ∧ Sz 100 q := ⟨by omega, by omega, zs⟩
    refine s_set (De.callK (m, q) (.cons (.var (Dp.int (m : Int)) rfl) (.cons (.var h6 rfl) .nil)) rfl (fun _ _ => kw2s) pre) e6.bh fun v7 B7 H7 e7 h7 => ?_
    refine s_skip (Dt.reprs (K := K) (d := leanD m q) (.var h7 rfl) (De.call (m, q) (.cons (.var (Dp.int (m : Int)) rfl) (.one (.var (Mo.mo e7.bb h6) rfl))) pre) (lean_shw pre.1 pre.2.1 zs)) e7.bh fun B8 H8 e8 => ?_
    have h7 : dat K (leanD m q) B8 v7 := Mo.mo e8.bb h7
    refine s_set (De.tupI (K := K) (i := 0) (j := 1) (.cons .int (.cons .int .nil))) e8.bh fun v9 B9 H9 e9 h9 => ?_
    have eD9 := eD6.trans L (.of eD6.dl ((e7.trans e8).trans e9))
    refine s_forS (Di.tupM (K := K) (as := List.range m) (f := fun i => frD (lean1 m q i)) (.var (Mo.mo e9.bb h7) rfl)) e9.bh (fun i σ B => ∃ u w8, σ = [some (.ref a), some (.ref d), some x, some (.int m), some (.int b), some v6, some v7, some u, w8, v9', v10] ∧ dat K (frD (sumR ((List.range i).map (lean1 m q)))) B u) (fun B' s => ⟨v9, _, rfl, Mo.mo s h9⟩) ?_ ?_
    · rintro Ba Ha ea i R y σ' Bc Bn Hn hR ⟨u, w8, rfl, hu⟩ s e hy
      rw [List.getElem?_map] at hR
      obtain ⟨j, hj, rfl⟩ := Option.map_eq_some_iff.mp hR
      have ij : i < m ∧ j = i := by
        obtain ⟨h1, h2⟩ := List.getElem?_eq_some_iff.mp hj
        rw [List.getElem_range] at h2
        rw [List.length_range] at h1
        exact ⟨h1, h2.symm⟩
      obtain ⟨im, rfl⟩ := ij
      refine s_skip (Dt.eq (Dt.tB (K := K) (De.op (De.num (.var hy rfl)) .int Rv.I0b)) (decide_eq_false (num_nn (lean_nn m2 lo hi j)))) e.bh fun Bd Hd ed => ?_
      refine s_setE (De.call (sumR ((List.range j).map (lean1 m q)), lean1 m q j) (.cons (.var (Mo.mo (s.trans ed.bb) hu) rfl) (.one (.var (Mo.mo ed.bb hy) rfl))) ⟨?_, (sz_lean pre.1 pre.2.1 zs j).mono (by decide)⟩) ed.bh fun v B' H' e' h' => ⟨B', (e.trans ed).trans e', v, _, rfl, ?_⟩
      · exact sz_sums (sz_lean pre.1 pre.2.1 zs) j (by omega)
      · rw [sum_snoc]
        exact h'
    · rintro σ' Ba Ha ea ⟨u, w8, rfl, hu⟩
      rw [List.length_map, List.length_range, lean_total q m2] at hu
      have eDa := eD9.trans L (.of eD9.dl ea)
      refine s_raw (c_any (K := K) eDa.dl rfl .int (by decide) (by decide) fun n Bb Hb n0 n1 eb => ?_)
      have hu := Mo.mo eb.bb hu
      have f1 : Dt (tTest (tOp (rNeD K) (tVar 7) (tTup (tCons (tC (.int 1)) (tCons (tC (.int 1)) tNil))))) ([some (.ref a), some (.ref d), some x, some (.int m), some (.int b), some v6, some v7, some u, w8, some (.int n), v10]) Bb false := Dt.same (K := K) (d := frD 1) (.var hu rfl) (De.tupI (.cons .int (.cons .int .nil))) (frD_shaped 1)
      refine s_if (Dt.or2 f1 (Dt.or2 (Dt.reprs (K := K) (De.callK n (.cons (.var (Dp.int n) rfl) .nil) rfl (fun _ _ => kw1) trivial) (De.call n (.one (.var (Dp.int n) rfl)) trivial) (shw_sgn n)) (Dt.eq (.test (K := K) (De.op (r := rNe) (.cb (.one (De.eq (De.lcA (as := List.range m) (r := fun i : Nat => dat K (.int (i : Int))) (Di.rng (.var (Dp.int (m : Int)) rfl) (by omega)) (fun i => .int (sgn i)) (by rw [List.length_range]; omega) fun i x Bn Hn _ sb _ hx => ⟨_, fun Q z => z, rfl, De.call (i : Int) (.one (.var hx rfl)) trivial⟩) (e := .list (((List.range m).map fun i : Nat => sgn (i : Int)).map .int)) (by rw [List.map_map]; rfl))) rc_sum) .int Rv.neI)) (by rw [sgn_sum m m2]; rfl)))) eb.bh (fun z => nomatch z) fun _ Bf Hf ef => ?_
      have eDf := (eDa.trans L eb).trans L (.of eb.dl ef)
      exact ⟨Bf, eDf, (((((((((((sB.trans eN.bb).trans e3.bb).trans e4.bb).trans e5.bb).trans e6.bb).trans e7.bb).trans e8.bb).trans e9.bb).trans ea.bb).trans eb.bb).trans ef.bb), _, _, _, _, _, _, _, _, _, rfl⟩
  · rintro σ' B' H' e' _ ⟨v2, v3, v4, v5, v6, v7, v8, v9, v10, rfl⟩
    exact k H'
end
end K47

set_option Elab.async false
set_option linter.all false
set_option maxRecDepth 100000
set_option maxHeartbeats 4000000
namespace K47
open PySem PySem.Spec PyProof.Rows L2 Wb Wv Wf Fq
theorem ini_InvalidSize {P : Program} {w : World} {K : PySem.W.Frag} {mg : Str → Option Value} {base : Heap} {C fI : Addr} {fd : FuncData} (F : Fun K "__init__" "InvalidSize.__init__" (inClass (topS 3) 0) fI fd) (T : ErrC K C) (no : PySem.W.findIn K (.ref C) "word" = some none) : FnOk P w K mg base CX0 1 fI fd ["self", "word"] (spIni C "word") := by
  refine F.ok (N := ["self", "word"]) ⟨rfl, rfl, rfl, by decide +kernel, rfl, by decide +kernel, by decide +kernel⟩ (fun vs H Q E h => ?_) (fun cdv A outer s H vs Q E hr h => ?_)
  · obtain ⟨a, v, rfl, _⟩ := h
    rfl
  · obtain ⟨a, v, rfl, ha, q⟩ := h
    refine ⟨_, pss_one (ps_ini (pv 0) (pv 1)), ?_⟩
    exact ⟨_, rfl, _, rfl, a, C, rfl, T, no, ha, q⟩
end K47
namespace K47
open PySem PySem.Spec PyProof.Rows L2 Wb Wv
set_option maxHeartbeats 4000000 in
theorem all_mk {l : PySem.W.OpenLaw} {w : World} {K : PySem.W.Frag} {h : Heap} {mg : Str → Option Value} {fa C_BlankError C_InvalidSize f_InvalidSize g_fraction g_whole g_plus g_times g_sign g_leaned g_deal g_any g_lgcd g_lfrac g_lplus g_ltimes g_lsign g_lleaned g_law a_ONE : Addr} {od_ONE : Option Addr} {its_ONE : Array Value} {n_ONE : Nat} {sl_ONE : Array (Option Value)}
    (X : K.In h) (G : h.Ns mainGlobals mg) (hfa : mg "law" = some (.ref fa))
    (aC_BlankError : PySem.W.nsIn K mainGlobals "BlankError" = some (some (.ref C_BlankError)))
    (aC_InvalidSize : PySem.W.nsIn K mainGlobals "InvalidSize" = some (some (.ref C_InvalidSize)))
    (hn : PySem.W.specialIn K (.builtin "object.__class__") "__get__" = some (some (.builtin "getset_descriptor.__get__")))
    (ht : PySem.W.takesIn K (.builtin "object.__class__") = some true)
    (e_BlankError : EF K C_BlankError topB "Exception.__new__")
    (e_InvalidSize : EF K C_InvalidSize (topE C_BlankError) "Exception.__new__")
    (a_InvalidSize : PySem.W.findIn K (.ref C_InvalidSize) "__init__" = some (some (.ref f_InvalidSize)))
    (t_InvalidSize : PySem.W.typeIn K (.ref f_InvalidSize) = some (.type "function"))
    (no_InvalidSize : PySem.W.findIn K (.ref C_InvalidSize) "word" = some none)
    (l_InvalidSize : FnF K "__init__" "InvalidSize.__init__" (inClass (topS 3) 0) f_InvalidSize)
    (z_fraction : PySem.W.nsIn K mainGlobals "fraction" = some (some (.ref g_fraction)))
    (y_fraction : FnF K "fraction" "fraction" s_fraction g_fraction)
    (z_whole : PySem.W.nsIn K mainGlobals "whole" = some (some (.ref g_whole)))
    (y_whole : FnF K "whole" "whole" s_whole g_whole)
    (z_plus : PySem.W.nsIn K mainGlobals "plus" = some (some (.ref g_plus)))
    (y_plus : FnF K "plus" "plus" s_plus g_plus)
    (z_times : PySem.W.nsIn K mainGlobals "times" = some (some (.ref g_times)))
    (y_times : FnF K "times" "times" s_times g_times)
    (z_sign : PySem.W.nsIn K mainGlobals "sign" = some (some (.ref g_sign)))
    (y_sign : FnF K "sign" "sign" s_sign g_sign)
    (z_leaned : PySem.W.nsIn K mainGlobals "leaned_row" = some (some (.ref g_leaned)))
    (y_leaned : FnF K "leaned_row" "leaned_row" s_leaned g_leaned)
    (z_deal : PySem.W.nsIn K mainGlobals "_law_deal" = some (some (.ref g_deal)))
    (y_deal : FnF K "_law_deal" "_law_deal" s_deal g_deal)
    (z_any : PySem.W.nsIn K mainGlobals "_law_any" = some (some (.ref g_any)))
    (y_any : FnF K "_law_any" "_law_any" s_any g_any)
    (z_lgcd : PySem.W.nsIn K mainGlobals "_law_gcd" = some (some (.ref g_lgcd)))
    (y_lgcd : FnF K "_law_gcd" "_law_gcd" s_lgcd g_lgcd)
    (z_lfrac : PySem.W.nsIn K mainGlobals "_law_frac" = some (some (.ref g_lfrac)))
    (y_lfrac : FnF K "_law_frac" "_law_frac" s_lfrac g_lfrac)
    (z_lplus : PySem.W.nsIn K mainGlobals "_law_plus" = some (some (.ref g_lplus)))
    (y_lplus : FnF K "_law_plus" "_law_plus" s_lplus g_lplus)
    (z_ltimes : PySem.W.nsIn K mainGlobals "_law_times" = some (some (.ref g_ltimes)))
    (y_ltimes : FnF K "_law_times" "_law_times" s_ltimes g_ltimes)
    (z_lsign : PySem.W.nsIn K mainGlobals "_law_sign" = some (some (.ref g_lsign)))
    (y_lsign : FnF K "_law_sign" "_law_sign" s_lsign g_lsign)
    (z_lleaned : PySem.W.nsIn K mainGlobals "_law_leaned" = some (some (.ref g_lleaned)))
    (y_lleaned : FnF K "_law_leaned" "_law_leaned" s_lleaned g_lleaned)
    (z_law : PySem.W.nsIn K mainGlobals "law" = some (some (.ref g_law)))
    (y_law : FnF K "law" "law" s_law g_law)
    (o_range : PySem.W.nsIn K mainGlobals "range" = some none)
    (o_tuple : PySem.W.nsIn K mainGlobals "tuple" = some none)
    (o_abs : PySem.W.nsIn K mainGlobals "abs" = some none)
    (o_repr : PySem.W.nsIn K mainGlobals "repr" = some none)
    (o_sum : PySem.W.nsIn K mainGlobals "sum" = some none)
    (o_int : PySem.W.nsIn K mainGlobals "int" = some none)
    (z_gcd : PySem.W.nsIn K mainGlobals "gcd" = some (some (.builtin "math.gcd")))
    (z_ONE : PySem.W.nsIn K mainGlobals "ONE" = some (some (.ref a_ONE)))
    (w_ONE : K.lookup a_ONE = some ⟨.type "tuple", od_ONE, .seq its_ONE n_ONE, sl_ONE⟩)
    (rv_ONE : Vals [.int 1, .int 1] its_ONE.toList)
    (qz_ONE : its_ONE.size ≤ sizeLine)
    : ∀ base : Heap, K.In base → base.Ns mainGlobals mg → ∃ fd : FuncData, (∀ (s : Shared) (v : Value), BindsTo s fd ⟨[v], []⟩ [("script", v)]) ∧ FnG l.prog w K mg base CX0 6 fa fd ["script"] (Wb.spLaw K) := by
  have T_BlankError : ErrC K C_BlankError := e_BlankError.err PySem.F.excBase_Exception PySem.F.store_Exception ⟨by decide, by decide, by decide⟩ rfl hn ht
  have T_InvalidSize : ErrC K C_InvalidSize := e_InvalidSize.err PySem.F.excBase_Exception PySem.F.store_Exception ⟨rfl, rfl, rfl⟩ rfl hn ht
  obtain ⟨_, _, _, _, _, _, F_InvalidSize⟩ := l_InvalidSize.fn
  have b_InvalidSize := F_InvalidSize.binds (ps := ["self", "word"]) fun _ _ _ _ _ _ us hl => match us, hl with | [_, _], _ => rfl
  have D_fraction : Def K mg "fraction" s_fraction ["top", "bottom"] := FnF.def_ X G z_fraction y_fraction (fun _ _ _ _ _ _ us hl => match us, hl with | [_, _], _ => rfl)
  have D_whole : Def K mg "whole" s_whole ["number"] := FnF.def_ X G z_whole y_whole (fun _ _ _ _ _ _ us hl => match us, hl with | [_], _ => rfl)
  have D_plus : Def K mg "plus" s_plus ["one", "other"] := FnF.def_ X G z_plus y_plus (fun _ _ _ _ _ _ us hl => match us, hl with | [_, _], _ => rfl)
  have D_times : Def K mg "times" s_times ["one", "other"] := FnF.def_ X G z_times y_times (fun _ _ _ _ _ _ us hl => match us, hl with | [_, _], _ => rfl)
  have D_sign : Def K mg "sign" s_sign ["value"] := FnF.def_ X G z_sign y_sign (fun _ _ _ _ _ _ us hl => match us, hl with | [_], _ => rfl)
  have D_leaned : Def K mg "leaned_row" s_leaned ["many", "strength"] := FnF.def_ X G z_leaned y_leaned (fun _ _ _ _ _ _ us hl => match us, hl with | [_, _], _ => rfl)
  have D_deal : Def K mg "_law_deal" s_deal ["script", "base"] := FnF.def_ X G z_deal y_deal (fun _ _ _ _ _ _ us hl => match us, hl with | [_, _], _ => rfl)
  have D_any : Def K mg "_law_any" s_any ["deal", "bound"] := FnF.def_ X G z_any y_any (fun _ _ _ _ _ _ us hl => match us, hl with | [_, _], _ => rfl)
  have D_lgcd : Def K mg "_law_gcd" s_lgcd ["one", "other"] := FnF.def_ X G z_lgcd y_lgcd (fun _ _ _ _ _ _ us hl => match us, hl with | [_, _], _ => rfl)
  have D_lfrac : Def K mg "_law_frac" s_lfrac ["top", "bottom"] := FnF.def_ X G z_lfrac y_lfrac (fun _ _ _ _ _ _ us hl => match us, hl with | [_, _], _ => rfl)
  have D_lplus : Def K mg "_law_plus" s_lplus ["one", "other"] := FnF.def_ X G z_lplus y_lplus (fun _ _ _ _ _ _ us hl => match us, hl with | [_, _], _ => rfl)
  have D_ltimes : Def K mg "_law_times" s_ltimes ["one", "other"] := FnF.def_ X G z_ltimes y_ltimes (fun _ _ _ _ _ _ us hl => match us, hl with | [_, _], _ => rfl)
  have D_lsign : Def K mg "_law_sign" s_lsign ["value"] := FnF.def_ X G z_lsign y_lsign (fun _ _ _ _ _ _ us hl => match us, hl with | [_], _ => rfl)
  have D_lleaned : Def K mg "_law_leaned" s_lleaned ["many", "strength"] := FnF.def_ X G z_lleaned y_lleaned (fun _ _ _ _ _ _ us hl => match us, hl with | [_, _], _ => rfl)
  have D_law : Def K mg "law" s_law ["script"] := FnF.def_ X G z_law y_law (fun _ _ _ _ _ _ us hl => match us, hl with | [_], _ => rfl)
  have n_range := PySem.W.mg_none_of X G o_range
  have n_tuple := PySem.W.mg_none_of X G o_tuple
  have n_abs := PySem.W.mg_none_of X G o_abs
  have n_repr := PySem.W.mg_none_of X G o_repr
  have n_sum := PySem.W.mg_none_of X G o_sum
  have n_int := PySem.W.mg_none_of X G o_int
  have m_gcd := PySem.W.mg_of X G z_gcd
  have m_ONE := PySem.W.mg_of X G z_ONE
  have c_ONE : ∀ H, SqT K H a_ONE [.int 1, .int 1] := tup_of w_ONE qz_ONE rv_ONE
  intro base _ _
  have Z_BlankError : ErrB K mg "BlankError" C_BlankError topB := ⟨T_BlankError, PySem.W.mg_of X G aC_BlankError, e_BlankError.chain⟩
  have Z_InvalidSize : Err l.prog w K mg base "InvalidSize" "word" C_InvalidSize (topE C_BlankError) := ⟨T_InvalidSize, PySem.W.mg_of X G aC_InvalidSize, e_InvalidSize.chain, no_InvalidSize, f_InvalidSize, _, a_InvalidSize, t_InvalidSize, ini_InvalidSize F_InvalidSize T_InvalidSize no_InvalidSize, b_InvalidSize⟩
  have C_fraction := ok_fraction (P := l.prog) (w := w) (base := base) D_fraction Z_InvalidSize m_gcd
  have C_whole := ok_whole (P := l.prog) (w := w) (base := base) D_whole 
  have C_plus := ok_plus (P := l.prog) (w := w) (base := base) D_plus C_fraction
  have C_times := ok_times (P := l.prog) (w := w) (base := base) D_times C_fraction
  have C_sign := ok_sign (P := l.prog) (w := w) (base := base) D_sign 
  have C_leaned := ok_leaned (P := l.prog) (w := w) (base := base) D_leaned C_fraction n_range C_times C_plus C_whole C_sign m_ONE n_tuple c_ONE
  have C_deal := ok_deal (P := l.prog) (w := w) (base := base) D_deal n_int n_abs
  have C_any := ok_any (P := l.prog) (w := w) (base := base) D_any n_int
  have C_lgcd := ok_lgcd (P := l.prog) (w := w) (base := base) D_lgcd 
  have C_lfrac := ok_lfrac (P := l.prog) (w := w) (base := base) D_lfrac C_lgcd n_abs
  have C_lplus := ok_lplus (P := l.prog) (w := w) (base := base) D_lplus C_lfrac
  have C_ltimes := ok_ltimes (P := l.prog) (w := w) (base := base) D_ltimes C_lfrac
  have C_lsign := ok_lsign (P := l.prog) (w := w) (base := base) D_lsign 
  have C_lleaned := ok_lleaned (P := l.prog) (w := w) (base := base) D_lleaned n_range C_ltimes C_lplus C_lsign n_tuple
  have C_law := ok_law (P := l.prog) (w := w) (base := base) D_law C_deal n_range C_any C_lfrac C_leaned n_repr C_lleaned C_lplus C_sign C_lsign n_sum
  exact C_law.law hfa (fun _ _ _ _ _ _ s u => .of_eq rfl)
end K47
open PySem PySem.W PyProof.Rows in
set_option maxRecDepth 100000 in
set_option maxHeartbeats 0 in
theorem PySem.Challenge.cw_whyblank_k47_signs_and_rows_that_lean_holds : PySem.Challenge.rw_whyblank_k47_signs_and_rows_that_lean.Holds := by
  w_on; o_law; k_head; (case hw => w_witness2)
  k_fill
  refine Wb.walk2 (l := PySem.Challenge.rw_whyblank_k47_signs_and_rows_that_lean) (k := 6) ⟨rfl, by decide, by decide⟩ rfl rfl (fun w h Y => PySem.W.kIn_of Y) ?F
  case F =>
    intro w mg fa h KX G hmg
    refine' K47.all_mk KX G hmg ?aC_BlankError ?aC_InvalidSize ?hn ?ht (Wb.EF.mk (Wb.ClsRow.mk2 ?r_BlankError) ?sa_BlankError ?ga_BlankError ?gg_BlankError ?ex_BlankError ?ty_BlankError ?hd_BlankError ?kp_BlankError ?hc_BlankError ?hm_BlankError) (Wb.EF.mk (Wb.ClsRow.mk2 ?r_InvalidSize) ?sa_InvalidSize ?ga_InvalidSize ?gg_InvalidSize ?ex_InvalidSize ?ty_InvalidSize ?hd_InvalidSize ?kp_InvalidSize ?hc_InvalidSize ?hm_InvalidSize) ?a_InvalidSize ?t_InvalidSize ?no_InvalidSize (Wb.FnF.mk2 ?li_InvalidSize ?ui_InvalidSize ?vi_InvalidSize) ?z_fraction (Wb.FnF.mk2 ?l_fraction ?u_fraction ?v_fraction) ?z_whole (Wb.FnF.mk2 ?l_whole ?u_whole ?v_whole) ?z_plus (Wb.FnF.mk2 ?l_plus ?u_plus ?v_plus) ?z_times (Wb.FnF.mk2 ?l_times ?u_times ?v_times) ?z_sign (Wb.FnF.mk2 ?l_sign ?u_sign ?v_sign) ?z_leaned (Wb.FnF.mk2 ?l_leaned ?u_leaned ?v_leaned) ?z_deal (Wb.FnF.mk2 ?l_deal ?u_deal ?v_deal) ?z_any (Wb.FnF.mk2 ?l_any ?u_any ?v_any) ?z_lgcd (Wb.FnF.mk2 ?l_lgcd ?u_lgcd ?v_lgcd) ?z_lfrac (Wb.FnF.mk2 ?l_lfrac ?u_lfrac ?v_lfrac) ?z_lplus (Wb.FnF.mk2 ?l_lplus ?u_lplus ?v_lplus) ?z_ltimes (Wb.FnF.mk2 ?l_ltimes ?u_ltimes ?v_ltimes) ?z_lsign (Wb.FnF.mk2 ?l_lsign ?u_lsign ?v_lsign) ?z_lleaned (Wb.FnF.mk2 ?l_lleaned ?u_lleaned ?v_lleaned) ?z_law (Wb.FnF.mk2 ?l_law ?u_law ?v_law) ?o_range ?o_tuple ?o_abs ?o_repr ?o_sum ?o_int ?z_gcd ?z_ONE ?w_ONE ?rv_ONE ?qz_ONE
    (case aC_BlankError => k_is)
    (case aC_InvalidSize => k_is)
    (case hn => k_is)
    (case ht => k_is)
    (case r_BlankError => k_is)
    (case sa_BlankError => k_is)
    (case ga_BlankError => k_is)
    (case gg_BlankError => k_is)
    (case ex_BlankError => k_is)
    (case ty_BlankError => k_is)
    (case hd_BlankError => k_is)
    (case kp_BlankError => k_is)
    (case hc_BlankError => k_is)
    (case hm_BlankError => k_is)
    (case r_InvalidSize => k_is)
    (case sa_InvalidSize => k_is)
    (case ga_InvalidSize => k_is)
    (case gg_InvalidSize => k_is)
    (case ex_InvalidSize => k_is)
    (case ty_InvalidSize => k_is)
    (case hd_InvalidSize => k_is)
    (case kp_InvalidSize => k_is)
    (case hc_InvalidSize => k_is)
    (case hm_InvalidSize => k_is)
    (case a_InvalidSize => k_is)
    (case t_InvalidSize => k_is)
    (case no_InvalidSize => k_is)
    (case li_InvalidSize => k_is)
    (case ui_InvalidSize => k_is)
    (case vi_InvalidSize => k_is)
    (case z_fraction => k_is)
    (case l_fraction => k_is)
    (case u_fraction => k_is)
    (case v_fraction => k_is)
    (case z_whole => k_is)
    (case l_whole => k_is)
    (case u_whole => k_is)
    (case v_whole => k_is)
    (case z_plus => k_is)
    (case l_plus => k_is)
    (case u_plus => k_is)
    (case v_plus => k_is)
    (case z_times => k_is)
    (case l_times => k_is)
    (case u_times => k_is)
    (case v_times => k_is)
    (case z_sign => k_is)
    (case l_sign => k_is)
    (case u_sign => k_is)
    (case v_sign => k_is)
    (case z_leaned => k_is)
    (case l_leaned => k_is)
    (case u_leaned => k_is)
    (case v_leaned => k_is)
    (case z_deal => k_is)
    (case l_deal => k_is)
    (case u_deal => k_is)
    (case v_deal => k_is)
    (case z_any => k_is)
    (case l_any => k_is)
    (case u_any => k_is)
    (case v_any => k_is)
    (case z_lgcd => k_is)
    (case l_lgcd => k_is)
    (case u_lgcd => k_is)
    (case v_lgcd => k_is)
    (case z_lfrac => k_is)
    (case l_lfrac => k_is)
    (case u_lfrac => k_is)
    (case v_lfrac => k_is)
    (case z_lplus => k_is)
    (case l_lplus => k_is)
    (case u_lplus => k_is)
    (case v_lplus => k_is)
    (case z_ltimes => k_is)
    (case l_ltimes => k_is)
    (case u_ltimes => k_is)
    (case v_ltimes => k_is)
    (case z_lsign => k_is)
    (case l_lsign => k_is)
    (case u_lsign => k_is)
    (case v_lsign => k_is)
    (case z_lleaned => k_is)
    (case l_lleaned => k_is)
    (case u_lleaned => k_is)
    (case v_lleaned => k_is)
    (case z_law => k_is)
    (case l_law => k_is)
    (case u_law => k_is)
    (case v_law => k_is)
    (case o_range => k_is)
    (case o_tuple => k_is)
    (case o_abs => k_is)
    (case o_repr => k_is)
    (case o_sum => k_is)
    (case o_int => k_is)
    (case z_gcd => k_is)
    (case z_ONE => k_is)
    (case w_ONE => k_is)
    (case rv_ONE => exact (.cons ⟨_, rfl⟩ (.cons ⟨_, rfl⟩ .nil)))
    (case qz_ONE => decide)
