import PyProof.Rows.All
import Wide.All
import OpenK.AllK
import Wide.FinOn
import PyProof.ReprReads
import PyProof.ReprText
import PyProof.ReprLen
import PyProof.ReprBulk
import PyProof.ReprRoads
import HandS.ForMost
import HandS.IsInst
import HandS.Wide
import HandS.StrMore
import HandS.Codes
import KE.DataMinMax
import HandS.TupAny
import HandS.TupMul
import HandS.Style
import HandS.Conv
import HandS.Walk
import HandS.Exc
import HandS.ExcOwn
import HandS.WordsExc
import HandS.TryOnly
import HandS.TryMany
import HandS.Small
import PyProof.EqAt
import PyProof.EqKinds
import PyProof.TupleCall
import KE.KExcInit
import HandS.ForExc
import HandS.ExcInit
import Open.SpecLaws
import KE.OsGo
import HandS.Lambda
import HandS.EndTab
import KE.KNest
import PyProof.P3In
import PyProof.FactsAll.dict
import HandS.HotCalls
import HandS.ExcValue
import KE.KExcIs
import PyProof.StrOps2
import PySem.Challenge.RW_fingerbooks_k01_errors_and_what_they_kee
set_option Elab.async false
set_option linter.all false
set_option maxRecDepth 100000
set_option maxHeartbeats 2000000
namespace G
open PySem PySem.Spec PyProof.Rows L2

/-! ## Promises that hold where no text of an object is being written (guards empty) -/
structure FnG (P : Program) (w : World) (K : PySem.W.Frag) (mg : Str → Option Value) (base : Heap)
    (CX : CXT) (k : Nat) (f : Addr) (fd : FuncData) (ps : List Str) (sp : Sp) : Prop where
  len : ∀ xs H Q E, sp xs H Q E → xs.length = ps.length
  go : ∀ (A : Around) (out : List Env) (s : Shared) (H : Hp) (args : Args) (us : List Value) (xs : List V) (Q : VK) (E : XK),
    A.guards = some [] → Room k A → Env0 P w K mg base A out s H → BindsTo s fd args (ps.zip us) → Vals xs us → sp xs H Q E →
    codeAny (model P w) A (.call (.ref f) args) (CR CX out P w H s Q E) s

theorem FnG.ofOk {P w K mg base CX k f fd ps sp} (F : FnOk P w K mg base CX k f fd ps sp) : FnG P w K mg base CX k f fd ps sp :=
  ⟨F.len, fun A out s H args us xs Q E _ => F.run A out s H args us xs Q E⟩
theorem FnG.mono {P w K mg base CX j k f fd ps sp} (F : FnG P w K mg base CX j f fd ps sp) (h : j ≤ k) : FnG P w K mg base CX k f fd ps sp :=
  ⟨F.len, fun A out s H args us xs Q E hg hr => F.go A out s H args us xs Q E hg (hr.mono h)⟩

section
variable {X : Cx} {CX : CXT} {k : Nat} {f : Addr} {fd : FuncData} {ps : List Str} {sp : Sp} {dvs : List V} {ds : List Value} {E : XK}
theorem runG {pins : List (Addr × Obj)} {σ : L2.St} {H : Hp} {s : Shared} {Q : VK} {us : List Value} {xs : List V}
    (F : FnG X.prog X.w X.K X.mg X.base CX k f fd ps sp) (hgd : X.A.guards = some []) (hr : Room k X.A)
    (hb : Binds X.K fd ps ds) (hd : Vals dvs ds) (hx : Passes CX X E) (I : Inv X pins σ H s) (r : Vals xs us) (h : sp (xs ++ dvs) H Q E) :
    wpAny (model X.prog X.w) X.A (call (.ref f) us) (EP X pins σ Q) X.xe s := by
  have both : Vals (xs ++ dvs) (us ++ ds) := r.append hd
  have sz : (us ++ ds).length = ps.length := both.length.symm.trans (F.len _ _ _ _ h)
  have body := F.go X.A X.stack s H ⟨us, []⟩ (us ++ ds) (xs ++ dvs) Q E hgd hr I.env0 (hb s us I.kIn sz) both h
  refine wpAny_call (codeAny_mono body fun res t hq => ?_)
  match res, hq with
  | .error e, hq => exact hx pins σ H s e t I hq
  | .ok (.ret u), hq => exact I.after hq
  | .ok .next, hq => exact hq.elim
  | .ok .brk, hq => exact hq.elim
  | .ok .cont, hq => exact hq.elim

theorem pe_g {x : Str} {p pos : Pos} {e : Expr} {es : List Expr} {t : TA} (F : FnG X.prog X.w X.K X.mg X.base CX k f fd ps sp)
    (hgd : X.A.guards = some []) (hr : Room k X.A) (hg : Gl X x) (hm : X.mg x = some (.ref f)) (hk : PySem.W.keepIn X.K (.ref f) = true)
    (hb : Binds X.K fd ps ds) (hd : Vals dvs ds) (hx : Passes CX X E) (ha : PA X (e :: es) t)
    (hdb : (x == ("__debug__" : Str)) = false := by decide)
    (he : starEach (e :: es) X.env = (false, eval e X.env) :: starEach es X.env := by rfl)
    (hpl : (backTo pos (starEach es X.env)).any (·.1) = false := by rfl) :
    PE X (.Call (.Name x p) (e :: es) [] pos) (tCall sp dvs E t) :=
  ⟨fun pins s σ H Q I h => wpAny_Call_Name_kw (ld_glob I hg hm
    (PySem.W.callWith_K (h₀ := X.base) I.ok.mod.kin hk
      (thn (ha.run pos pins s σ H _ I h) fun us s1 ⟨xs, H1, I1, r, q⟩ => ⟨I1.kIn, runG F hgd hr hb hd hx I1 r q⟩) he hpl) hdb)⟩
theorem pe_g0 {x : Str} {p pos : Pos} (F : FnG X.prog X.w X.K X.mg X.base CX k f fd ps sp)
    (hgd : X.A.guards = some []) (hr : Room k X.A) (hg : Gl X x) (hm : X.mg x = some (.ref f)) (hk : PySem.W.keepIn X.K (.ref f) = true)
    (hb : Binds X.K fd ps ds) (hd : Vals dvs ds) (hx : Passes CX X E) (hdb : (x == ("__debug__" : Str)) = false := by decide) :
    PE X (.Call (.Name x p) [] [] pos) (tCall sp dvs E tNil) :=
  ⟨fun pins s σ H Q I h => wpAny_Call_Name_kw (ld_glob I hg hm (PySem.W.callWith_K0 I.kIn hk (runG (us := []) F hgd hr hb hd hx I .nil h)) hdb)⟩
end

/-- a def by its body, guards known -/
theorem okG {P : Program} {w : World} {K : PySem.W.Frag} {mg : Str → Option Value} {base : Heap} {x qual : Str} {st : Stmt} {f : Addr} {fd : FuncData}
    {N ps : List Str} {k : Nat} {sp : Sp} (F : Fun K x qual st f fd) (S : FnScope N ps (defScope st)) (len : ∀ xs H Q E, sp xs H Q E → xs.length = ps.length)
    (hbody : ∀ (cdv : Value) (A : Around) (out : List Env) (s : Shared) (H : Hp) (xs : List V) (Q : VK) (E : XK), A.guards = some [] →
      Room k (A.deeper (envOfC qual (defScope st) s.heap.objs.size f cdv)) → sp xs H Q E →
      ∃ t, PSs (cxOf CX0 P w K mg base N qual (defScope st) f cdv A out s H E).nox (defBody st) t ∧
        t { nx := fun _ H' => Q .non H', rt := Q } (start N xs) H) :
    FnG P w K mg base CX0 (k + 1) f fd ps sp := by
  obtain ⟨oc, od, kV, doc, pm, an, cdv, ct, osl, rfl, lk, hcd⟩ := F.ex
  constructor
  · exact len
  intro A out s H args us xs Q E gA hr e0 hb r hsp
  have old : ∀ b o, base.get? b = some o → s.heap.get? b = some o := fun b o q => (e0.bs b o q).1
  have KX : K.In s.heap := e0.mod.kin.keeps old
  have lim : s.heap.NoLimit := e0.mod.nolimit.keeps old
  refine codeAny_call_function hr.depth (KX _ _ lk) rfl S.co S.gen rfl (PySem.W.codeRec_of KX hcd) (hb _ _ _ _ ?_)
  refine wpAny_newFunctionEnv_cells S.kind (fun y hy => ?_) fun env he s1 x1 => ?_
  · have q := S.par y.1 (List.of_mem_zip (a := y.1) (b := y.2) hy).1
    exact q.elim .inl fun q => .inr ⟨q, PySem.W.cellsFrom_some _ _ _ (.inl q)⟩
  · subst he
    refine ⟨lim.keeps x1.toInCall.keep, codeAny_func ?_⟩
    obtain ⟨t, ht, hq⟩ := hbody cdv A out s H xs Q E gA (hr.deeper _) hsp
    have I := inv_start (CX := CX0) (P := P) (w := w) (K := K) (mg := mg) (base := base) (N := N) (ps := ps) (E := E) S hr.hd e0 (len _ _ _ _ hsp) r x1
    refine wpAny_mono (ht.nox.run [] s1 (start N xs) H _ I hq) (fun fl s2 hs => ?_) fun _ _ z => z
    match fl, hs with
    | .ret u, ⟨v, σ', H', J, rv, q⟩ => exact ⟨v, H', J.os, J.bare, J.base, J.hok, rv, q⟩
    | .next, ⟨σ', H', J, q⟩ => exact ⟨V.non, H', J.os, J.bare, J.base, J.hok, rfl, q⟩
    | .brk, ⟨_, _, _, q⟩ => exact q.elim
    | .cont, ⟨_, _, _, q⟩ => exact q.elim

/-! ## the end of a row -/
theorem endG {l : PySem.W.OpenLaw} {n k : Nat} {q : Program} {loose : List Str} {XP : (Str → Option Value) → Heap → Prop} {YP : World → Heap → Prop} {d : DefRec}
    {K : Params → PySem.W.Frag} {sp : PySem.W.Frag → Sp} {x : Str}
    (hn : l.most = some n) (hn2 : n ≤ sizeLine) (hdf : d.params.defaults = []) (hr : Room k callerA)
    (hY : ∀ (w : World) (h : Heap), YP w h → (K w.params).In h)
    (F : ∀ (w : World) (mg : Str → Option Value) (fa : Addr) (h : Heap), (K w.params).In h → h.Ns mainGlobals mg → mg d.name = some (.ref fa) →
      ∃ fd : FuncData, (∀ (s : Shared) (u : Value), BindsTo s fd ⟨[u], []⟩ [(x, u)]) ∧
        ∀ base : Heap, (K w.params).In base → base.Ns mainGlobals mg → FnG l.prog w (K w.params) mg base CX0 k fa fd [x] (sp (K w.params)))
    (hsp : ∀ (K : PySem.W.Frag) (H : Hp) (a : Addr) (ns : List Int), ns.length ≤ n → SqL K H a (ns.map V.int) →
      sp K [.ref a] H (fun v _ => v = .bl true) fun _ _ _ => False) :
    PySem.W.WalkO q loose XP YP l.row.toRowW d [] (fun f vs => PySem.call f vs) := by
  refine Att.attach_call hn hdf fun w s0 s1 mg mb fa o pm cd doc a vs ns gr Y ho hd hcd hmg ha hi hl hgn => ?_
  have KX := hY w _ Y
  obtain ⟨fd, hbind, F⟩ := F w mg fa _ KX gr.T.g hmg
  have rv := vals_ints hi
  have lenV := hi.length
  have nsz : ns.length ≤ sizeLine := Nat.le_trans hl hn2
  -- the tracked heap T: nothing, or the script alone
  have main : ∀ T : Hp, (∀ b, T b = none ∨ ∃ ob xs, T b = some (.frz ob (.lst xs))) → SqL (K w.params) T a (ns.map V.int) → HOk l.prog w T s1.heap →
      (∀ b, T b ≠ none → b = a) → (T a ≠ none → (K w.params).lookup a = none) →
      codeAny (model l.prog w) callerA (.call (.ref fa) ⟨[.ref a], []⟩)
        (fun r t => r = .ok (.ret (.bool true)) ∧ OldK s1.heap t.heap ∧ t.os = s1.os ∧ AllBare t.gens) s1 := by
    intro T only hS hok only_a notK
    have keepD : ∀ {b : Addr} {ob : Obj}, s1.heap.get? b = some ob → (∃ es ep, ob.data = .dict es ep) → (hidT s1.heap T).get? b = some ob := by
      intro b ob e ⟨es, ep, ed⟩
      refine hidT_get e ?_
      match q : T b with
      | none => rfl
      | some u =>
        have hb : b = a := only_a b (by rw [q]; exact Option.some_ne_none _)
        subst hb
        rw [ha] at e
        cases e
        cases (show Data.seq vs.toArray _ = Data.dict es ep from ed)
    have nsT : ∀ {b : Addr} {m : Str → Option Value}, s1.heap.Ns b m → (hidT s1.heap T).Ns b m := by
      rintro b m ⟨ob, es, ep, e, ed, r⟩
      exact ⟨ob, es, ep, keepD e ⟨es, ep, ed⟩, ed, r⟩
    have inT : (K w.params).In (hidT s1.heap T) := by
      intro b ob e
      refine hidT_get (KX b ob e) ?_
      match q : T b with
      | none => rfl
      | some u =>
        have hb : b = a := only_a b (by rw [q]; exact Option.some_ne_none _)
        subst hb
        rw [notK (by rw [q]; exact Option.some_ne_none _)] at e
        cases e
    have nolim : (hidT s1.heap T).NoLimit := by
      obtain ⟨mc, h1, h2⟩ := gr.T.nolimit
      exact ⟨mc, nsT h1, h2⟩
    have md : Mod (K w.params) mg (hidT s1.heap T) := ⟨inT, nsT gr.T.g, ⟨mb, nsT gr.T.b, gr.T.builtins⟩, nolim⟩
    have e0 : Env0 l.prog w (K w.params) mg (hidT s1.heap T) callerA [] s1 T := by
      refine ⟨rfl, md, fun b ob e => of_hidT e, Nat.le_of_eq (hidT_size _ _), trivial, fun b hb => ?_, hok, .of_eq hgn⟩
      cases (show b ∈ ([] : List Addr) from hb)
    have run := (F _ inT (nsT gr.T.g)).go callerA [] s1 T ⟨[.ref a], []⟩ [.ref a] [.ref a] _ _ rfl hr e0 (hbind s1 (.ref a)) (.cons rfl .nil) (hsp (K w.params) T a ns hl hS)
    refine codeAny_mono run fun res t hq => ?_
    match res, hq with
    | .error e, hq => exact hq.elim
    | .ok .next, hq => exact hq.elim
    | .ok .brk, hq => exact hq.elim
    | .ok .cont, hq => exact hq.elim
    | .ok (.ret u), ⟨v, T', os, bare, un, hok', rr, qq⟩ =>
      obtain rfl : v = .bl true := qq
      obtain rfl : u = Value.bool true := rr
      refine ⟨rfl, OldK.of_keep fun b ob e => ?_, os, bare⟩
      match q : T b with
      | none => exact un.keep b ob e q (fun z => nomatch (show b ∈ ([] : List Addr) from z)) (fun z => nomatch z)
      | some u =>
        rcases only b with z | ⟨fo, xs, z⟩
        · rw [q] at z
          cases z
        · obtain ⟨e1, _⟩ := hok b _ z
          obtain ⟨e2, _⟩ := hok' b _ (un.frzs b fo _ z)
          rw [e] at e1
          cases e1
          exact e2
  match hk : (K w.params).lookup a with
  | some ob =>
    have e := KX a ob hk
    rw [ha] at e
    cases e
    refine main (fun _ => none) (fun _ => .inl rfl) (.inr ⟨_, vs.toArray, _, hk, rfl, rfl, rfl, ?_, ?_⟩) (fun b u z => nomatch (show (none : Option HO) = some u from z)) (fun b z => absurd rfl z) (fun z => absurd rfl z)
    · rw [List.size_toArray, lenV]
      exact nsz
    · simpa using rv
  | none =>
    have atA : ∀ b, b = a → (if b = a then some (HO.frz { cls := .type "list", data := .seq vs.toArray } (.lst (ns.map V.int))) else none) = some (HO.frz { cls := .type "list", data := .seq vs.toArray } (.lst (ns.map V.int))) := fun b hb => if_pos hb
    have offA : ∀ b, b ≠ a → (if b = a then some (HO.frz { cls := .type "list", data := .seq vs.toArray } (.lst (ns.map V.int))) else none) = none := fun b hb => if_neg hb
    refine main (fun b => if b = a then some (.frz { cls := .type "list", data := .seq vs.toArray } (.lst (ns.map V.int))) else none) (fun b => ?_) (.inl (.inr ⟨{ cls := .type "list", data := .seq vs.toArray }, atA a rfl⟩)) (fun b u z => ?_) (fun b z => ?_) fun _ => hk
    · by_cases hb : b = a
      · exact .inr ⟨_, _, atA b hb⟩
      · exact .inl (offA b hb)
    · by_cases hb : b = a
      · have z2 := (atA b hb).symm.trans z
        cases z2
        subst hb
        exact ⟨ha, by rw [List.length_map]; exact nsz, vs, _, rv, ha⟩
      · have z2 := (offA b hb).symm.trans z
        cases z2
    · by_cases hb : b = a
      · exact hb
      · exact absurd (offA b hb) z

/-! ## repr of data -/
mutual
/-- data whose text is written: no dict, numbers and texts of bounded size -/
def nice : PyData → Bool
  | .none | .bool _ => true
  | .int i => decide (i.natAbs.log2 < 1200)
  | .str x => x.cps.toList.all fun c => decide (c < 16 ^ 8)
  | .list xs | .tuple xs => niceAll xs
  | .dict _ => false
def niceAll : List PyData → Bool
  | [] => true
  | x :: xs => nice x && niceAll xs
end
structure Shw (d : PyData) : Prop where
  noDict : d.hasDict = false
  able : d.showable = true
  deep : d.depth ≤ 60
  fits : d.shown.length ≤ sizeLine
mutual
theorem nice_facts : ∀ d : PyData, nice d = true → d.hasDict = false ∧ d.showable = true ∧ d.leavesShort 1201 = true
  | .none, _ => by simp [PyData.hasDict, PyData.showable, PyData.leavesShort]
  | .bool _, _ => by simp [PyData.hasDict, PyData.showable, PyData.leavesShort]
  | .int i, h => by
    have h2 : i.natAbs.log2 < 1200 := by simpa [nice] using h
    have h3 := int_text_length_le (a := i) (by decide) h2
    have h4 : (PyData.shown (.int i)).length ≤ 1201 := by
      rw [PyData.shown_int]
      rw [PySem.ofString_length]
      exact h3
    refine ⟨by simp [PyData.hasDict], ?_, ?_⟩
    · simp only [PyData.showable]
      exact decide_eq_true (by omega)
    · simp only [PyData.leavesShort]
      exact decide_eq_true h4
  | .str x, h => by
    refine ⟨by simp [PyData.hasDict], by simp [PyData.showable], ?_⟩
    simpa only [PyData.leavesShort, nice] using h
  | .list xs, h => by
    have q := nice_factsAll xs (by simpa only [nice] using h)
    exact ⟨by simpa only [PyData.hasDict] using q.1, by simpa only [PyData.showable] using q.2.1, by simpa only [PyData.leavesShort] using q.2.2⟩
  | .tuple xs, h => by
    have q := nice_factsAll xs (by simpa only [nice] using h)
    exact ⟨by simpa only [PyData.hasDict] using q.1, by simpa only [PyData.showable] using q.2.1, by simpa only [PyData.leavesShort] using q.2.2⟩
  | .dict _, h => by simp [nice] at h
theorem nice_factsAll : ∀ ds : List PyData, niceAll ds = true → PyData.hasDictAll ds = false ∧ PyData.showableAll ds = true ∧ PyData.leavesShortAll 1201 ds = true
  | [], _ => by simp [PyData.hasDictAll, PyData.showableAll, PyData.leavesShortAll]
  | x :: xs, h => by
    have h' : nice x = true ∧ niceAll xs = true := by simpa [niceAll] using h
    obtain ⟨a1, a2, a3⟩ := nice_facts x h'.1
    obtain ⟨b1, b2, b3⟩ := nice_factsAll xs h'.2
    simp only [PyData.hasDictAll, PyData.showableAll, PyData.leavesShortAll, a1, a2, a3, b1, b2, b3, Bool.or_self, Bool.and_self, and_self]
end
theorem shw {d : PyData} (h : nice d = true) (hd : d.depth ≤ 60) (hb : d.bulk ≤ 10000) : Shw d := by
  obtain ⟨a1, a2, a3⟩ := nice_facts d h
  refine ⟨a1, a2, hd, ?_⟩
  have q := PyData.shown_le_bulk 1201 (by decide) d a3
  have e2 : 16777216 ≤ sizeLine := by decide
  omega
section
variable {X : Cx}
def rRepr (K : PySem.W.Frag) : List V → Hp → VK → Prop := fun xs H Q => ∃ (x : V) (d : PyData), xs = [x] ∧ Dp K H x d ∧ Shw d ∧ Q (.str d.shown) H
theorem call_repr (hgd : X.A.guards = some []) (hu : X.A.units + 64 < cLine) : CallR X (.builtin "repr") (rRepr X.K) := by
  intro pins s σ H xs us Q I r h
  obtain ⟨x, d, rfl, hd, ⟨hn, hs, hp, hz⟩, q⟩ := h
  obtain ⟨u, rfl, ru⟩ := vals1 r
  obtain ⟨as, rd⟩ := Dp.reads I d x u hd ru
  have fin : ∀ h' t tk, (∀ b o, s.heap.get? b = some o → h'.get? b = some o) → EP X pins σ Q (.str d.shown t) { s with heap := h', toks := tk } :=
    fun h' t tk kp => ⟨.str d.shown, H, I.kept kp, ⟨t, rfl⟩, q⟩
  cases hd with
  | lst hl ha =>
    cases (show u = Value.ref _ from ru)
    exact repr_of_reads' rd hs (PyData.noDict_hsm hn) hgd (by omega) (fun _ _ e => e) fin hz
  | tup hl ha =>
    cases (show u = Value.ref _ from ru)
    exact repr_of_reads' rd hs (PyData.noDict_hsm hn) hgd (by omega) (fun _ _ e => e) fin hz
  | int i =>
    obtain ⟨t, rfl⟩ := (show ∃ t, u = Value.int i t from ru)
    have e : (PyData.int i).shown = ((toString i : String) : Str) := PyData.shown_int i
    rw [e] at q
    exact PySem.P.repr_of_int (by simpa [PyData.showable] using hs) ⟨.str _, H, I.tok _, ⟨_, rfl⟩, q⟩
  | non =>
    cases (show u = Value.none from ru)
    rw [PyData.shown_none] at q
    exact PySem.P.repr_of_none ⟨.str _, H, I.tok _, ⟨_, rfl⟩, q⟩
  | bl b =>
    cases (show u = Value.bool b from ru)
    rw [PyData.shown_bool] at q
    refine PySem.P.repr_of_bool ⟨.str _, H, I.tok _, ⟨_, rfl⟩, ?_⟩
    cases b <;> exact q
  | str x =>
    obtain ⟨t, rfl⟩ := (show ∃ t, u = Value.str x t from ru)
    rw [PyData.shown_str] at q hz
    exact PySem.P.repr_of_str ⟨.str _, H, I.tok _, ⟨_, rfl⟩, q⟩ hz
end
/-! ## Defs of the text as constants -/
structure DefAt (K : PySem.W.Frag) (mg : Str → Option Value) (x : Str) (st : Stmt) (ps : List Str) : Prop where
  ex : ∃ f fd, Fun K x x st f fd ∧ mg x = some (.ref f) ∧ ∀ us : List Value, us.length = ps.length → bindArgs fd ⟨us, []⟩ = pure (ps.zip us)
theorem defAt {K : PySem.W.Frag} {h : Heap} {mg : Str → Option Value} {x : Str} {st : Stmt} {ps : List Str} {f : Addr} {oc : Value} {od an : Option Addr} {osl : Array (Option Value)}
    {kV doc pm cdv ct : Value} (KX : K.In h) (gl : h.Ns mainGlobals mg)
    (hb : ∀ us : List Value, us.length = ps.length → bindArgs (PySem.W.fnOf x x (defArgs st) (defBody st) (defScope st) .none kV doc pm an cdv ct) ⟨us, []⟩ = pure (ps.zip us))
    (a : PySem.W.nsIn K mainGlobals x = some (some (.ref f)))
    (l : K.lookup f = some ⟨oc, od, .func (PySem.W.fnOf x x (defArgs st) (defBody st) (defScope st) .none kV doc pm an cdv ct), osl⟩)
    (c : PySem.W.codeIn K cdv x = true) (k : PySem.W.keepIn K (.ref f) = true) : DefAt K mg x st ps :=
  ⟨f, _, fun_mk l c k, PySem.W.mg_of KX gl a, hb⟩
structure CalG (P : Program) (w : World) (K : PySem.W.Frag) (mg : Str → Option Value) (base : Heap) (k : Nat) (x : Str) (ps : List Str) (sp : Sp) : Prop where
  ex : ∃ f fd, FnG P w K mg base CX0 k f fd ps sp ∧ mg x = some (.ref f) ∧ PySem.W.keepIn K (.ref f) = true ∧ Binds K fd ps []
theorem calOk {P : Program} {w : World} {K : PySem.W.Frag} {mg : Str → Option Value} {base : Heap} {x : Str} {st : Stmt} {N ps : List Str} {k : Nat} {sp : Sp}
    (D : DefAt K mg x st ps) (S : FnScope N ps (defScope st)) (len : ∀ xs H Q E, sp xs H Q E → xs.length = ps.length)
    (hbody : ∀ (f : Addr) (cdv : Value) (A : Around) (out : List Env) (s : Shared) (H : Hp) (xs : List V) (Q : VK) (E : XK), A.guards = some [] →
      Room k (A.deeper (envOfC x (defScope st) s.heap.objs.size f cdv)) → sp xs H Q E →
      ∃ t, PSs (cxOf CX0 P w K mg base N x (defScope st) f cdv A out s H E).nox (defBody st) t ∧
        t { nx := fun _ H' => Q .non H', rt := Q } (start N xs) H) : CalG P w K mg base (k + 1) x ps sp := by
  obtain ⟨f, fd, F, m, b⟩ := D.ex
  exact ⟨f, fd, okG F S len (hbody f), m, F.kp, Binds.all b⟩
section
variable {X : Cx} {k j : Nat} {ps : List Str} {sp : Sp} {x : Str} {p pos : Pos} {e : Expr} {es : List Expr} {t : TA}
theorem pe_k (c : CalG X.prog X.w X.K X.mg X.base k x ps sp) (hgd : X.A.guards = some []) (hr : Room j X.A) (hk : k ≤ j) (hg : Gl X x) (ha : PA X (e :: es) t)
    (hdb : (x == ("__debug__" : Str)) = false := by decide)
    (he : starEach (e :: es) X.env = (false, eval e X.env) :: starEach es X.env := by rfl)
    (hpl : (backTo pos (starEach es X.env)).any (·.1) = false := by rfl) :
    PE X (.Call (.Name x p) (e :: es) [] pos) (tCall sp [] E0 t) := by
  obtain ⟨f, fd, F, m, kp, b⟩ := c.ex
  exact pe_g F hgd (hr.mono hk) hg m kp b .nil pass0 ha hdb he hpl
theorem pe_k0 (c : CalG X.prog X.w X.K X.mg X.base k x ps sp) (hgd : X.A.guards = some []) (hr : Room j X.A) (hk : k ≤ j) (hg : Gl X x)
    (hdb : (x == ("__debug__" : Str)) = false := by decide) : PE X (.Call (.Name x p) [] [] pos) (tCall sp [] E0 tNil) := by
  obtain ⟨f, fd, F, m, kp, b⟩ := c.ex
  exact pe_g0 F hgd (hr.mono hk) hg m kp b .nil pass0 hdb
end
/-- the law's own def, at the address that the row names -/
theorem lawOk {P : Program} {w : World} {K : PySem.W.Frag} {mg : Str → Option Value} {x y : Str} {st : Stmt} {N : List Str} {k : Nat} {sp : Sp} {fa : Addr}
    (hf : mg x = some (.ref fa)) (D : DefAt K mg x st [y]) (S : FnScope N [y] (defScope st)) (len : ∀ xs H Q E, sp xs H Q E → xs.length = [y].length)
    (hbody : ∀ base : Heap, K.In base → base.Ns mainGlobals mg → ∀ (f : Addr) (cdv : Value) (A : Around) (out : List Env) (s : Shared) (H : Hp) (xs : List V) (Q : VK) (E : XK), A.guards = some [] →
      Room k (A.deeper (envOfC x (defScope st) s.heap.objs.size f cdv)) → sp xs H Q E →
      ∃ t, PSs (cxOf CX0 P w K mg base N x (defScope st) f cdv A out s H E).nox (defBody st) t ∧
        t { nx := fun _ H' => Q .non H', rt := Q } (start N xs) H) :
    ∃ fd : FuncData, (∀ (s : Shared) (u : Value), BindsTo s fd ⟨[u], []⟩ [(y, u)]) ∧
      ∀ base : Heap, K.In base → base.Ns mainGlobals mg → FnG P w K mg base CX0 (k + 1) fa fd [y] sp := by
  obtain ⟨f, fd, F, m, b⟩ := D.ex
  obtain rfl : f = fa := by
    rw [m] at hf
    cases hf
    rfl
  exact ⟨fd, fun s u => .of_eq (b [u] rfl), fun base h1 h2 => okG F S len (hbody base h1 h2 f)⟩

section
variable {X : Cx} {x : Str} {pos : Pos}
theorem pe_gv {v : V} (hg : Gl X x) (h : ∃ u, X.mg x = some u ∧ RelV v u) (hd : (x == ("__debug__" : Str)) = false := by decide) : PE X (.Name x pos) (tC v) :=
  let ⟨_, hm, r⟩ := h
  pe_glob hg hm r hd
theorem pe_ty (n : String) (hg : Gl X x) (hm : X.mg x = none) (hv : bootBuiltins x = some (.type n)) (hn : x ≠ "__name__" := by decide) (hd : (x == ("__debug__" : Str)) = false := by decide) : PE X (.Name x pos) (tC (.ty n)) :=
  pe_bltn hg hm hv rfl hn hd
end
/-! ## Heaps: what is new, what is rolled -/
theorem same_new {H : Hp} {p : Addr} {o : HO} (h : H p = none) : Same H (upd H p o) := fun b u e => by
  rw [upd_ne (ne_of_none e h)]
  exact e
mutual
theorem Dp.grow {K : PySem.W.Frag} {H H' : Hp} (s : Same H H') : ∀ {x : V} {d : PyData}, Dp K H x d → Dp K H' x d
  | _, _, .non => .non
  | _, _, .bl b => .bl b
  | _, _, .int i => .int i
  | _, _, .str x => .str x
  | _, _, .lst h a => .lst (s.seq h) (DpAll.grow s a)
  | _, _, .tup h a => .tup (by
      rcases h with (h | ⟨o, h⟩) | h
      · exact .inl (.inl (s _ _ h))
      · exact .inl (.inr ⟨o, s _ _ h⟩)
      · exact .inr h) (DpAll.grow s a)
theorem DpAll.grow {K : PySem.W.Frag} {H H' : Hp} (s : Same H H') : ∀ {xs : List V} {ds : List PyData}, DpAll K H xs ds → DpAll K H' xs ds
  | _, _, .nil => .nil
  | _, _, .cons a b => .cons (Dp.grow s a) (DpAll.grow s b)
end
/-- the heap without what stands at d -/
def hide (d : Addr) (H : Hp) : Hp := fun b => if b = d then none else H b
theorem hide_ne {d b : Addr} {H : Hp} (h : b ≠ d) : hide d H b = H b := if_neg h
theorem hide_at {d : Addr} {H : Hp} : hide d H d = none := if_pos rfl
theorem hide_le {d : Addr} {H : Hp} : Same (hide d H) H := fun b o e => by
  by_cases h : b = d
  · subst h
    rw [hide_at] at e
    cases e
  · rw [hide_ne h] at e
    exact e
/-- the dice at d: three numbers -/
def DiceAt (H : Hp) (d : Addr) : Prop := ∃ l s c : Int, H d = some (.lst [.int l, .int s, .int c])
/-- from H to H': the dice at d may have been rolled, what else stood stands -/
structure Mv (d : Addr) (H H' : Hp) : Prop where
  same : Same (hide d H) (hide d H')
  dice : DiceAt H' d
theorem Mv.refl {d : Addr} {H : Hp} (h : DiceAt H d) : Mv d H H := ⟨Same.refl _, h⟩
theorem Mv.trans {d : Addr} {H H1 H2 : Hp} (a : Mv d H H1) (b : Mv d H1 H2) : Mv d H H2 := ⟨a.same.trans b.same, b.dice⟩
theorem Mv.get {d : Addr} {H H' : Hp} (a : Mv d H H') {b : Addr} {o : HO} (n : b ≠ d) (h : H b = some o) : H' b = some o := by
  have := a.same b o (by rw [hide_ne n]; exact h)
  rw [hide_ne n] at this
  exact this
theorem Mv.free {d : Addr} {H H' : Hp} (a : Mv d H H') {p : Addr} (h : H' p = none) : H p = none := by
  by_cases e : p = d
  · subst e
    obtain ⟨l, s, c, q⟩ := a.dice
    rw [q] at h
    cases h
  · match q : H p with
    | none => rfl
    | some o =>
      rw [a.get e q] at h
      cases h
theorem DiceAt.ne {d p : Addr} {H : Hp} (h : DiceAt H d) (n : H p = none) : p ≠ d := fun e => by
  obtain ⟨l, s, c, q⟩ := h
  rw [e, q] at n
  cases n
theorem hide_new {d p : Addr} {H : Hp} {o : HO} (n : p ≠ d) : hide d (upd H p o) = upd (hide d H) p o := by
  funext b
  by_cases h1 : b = d
  · subst h1
    rw [hide_at, upd_ne n.symm, hide_at]
  · rw [hide_ne h1]
    by_cases h2 : b = p
    · subst h2
      rw [upd_same, upd_same]
    · rw [upd_ne h2, upd_ne h2, hide_ne h1]
theorem Mv.new {d p : Addr} {H H' : Hp} {o : HO} (a : Mv d H H') (n : H' p = none) : Mv d H (upd H' p o) := by
  have ne := a.dice.ne n
  refine ⟨fun b u e => ?_, ?_⟩
  · rw [hide_new ne]
    refine same_new ?_ b u (a.same b u e)
    rw [hide_ne ne]
    exact n
  · obtain ⟨l, s, c, q⟩ := a.dice
    exact ⟨l, s, c, by rw [upd_ne ne.symm]; exact q⟩
/-- an own list (new since H) changed -/
theorem Mv.set {d p : Addr} {H H' : Hp} {o : HO} (a : Mv d H H') (n : H p = none) (ne : p ≠ d) : Mv d H (upd H' p o) := by
  refine ⟨fun b u e => ?_, ?_⟩
  · rw [hide_new ne]
    have nb : b ≠ p := fun q => by
      rw [q, hide_ne ne, n] at e
      cases e
    rw [upd_ne nb]
    exact a.same b u e
  · obtain ⟨l, s, c, q⟩ := a.dice
    exact ⟨l, s, c, by rw [upd_ne ne.symm]; exact q⟩
theorem same_new2 {H : Hp} {p : Addr} {o u : HO} (h : H p = none) : Same H (upd (upd H p o) p u) := by
  rw [upd_upd]
  exact same_new h
theorem Mv.new2 {d p : Addr} {H H' : Hp} {o u : HO} (a : Mv d H H') (n : H' p = none) : Mv d H (upd (upd H' p o) p u) := by
  rw [upd_upd]
  exact a.new n
theorem Mv.rolled {d : Addr} {H H' : Hp} {l s c : Int} (a : Mv d H H') : Mv d H (upd H' d (.lst [.int l, .int s, .int c])) := by
  refine ⟨fun b u e => ?_, l, s, c, upd_same⟩
  have q := a.same b u e
  by_cases h : b = d
  · subst h
    rw [hide_at] at q
    cases q
  · rw [hide_ne h] at q ⊢
    rw [upd_ne h]
    exact q
theorem Mv.sql {K : PySem.W.Frag} {d a : Addr} {H H' : Hp} {xs : List V} (m : Mv d H H') (n : a ≠ d) (h : SqL K H a xs) : SqL K H' a xs := by
  rcases h with (h | ⟨o, h⟩) | h
  · exact .inl (.inl (m.get n h))
  · exact .inl (.inr ⟨o, m.get n h⟩)
  · exact .inr h
theorem Mv.dp {K : PySem.W.Frag} {d : Addr} {H H' : Hp} {x : V} {dat : PyData} (m : Mv d H H') (h : Dp K (hide d H) x dat) : Dp K (hide d H') x dat := Dp.grow m.same h
theorem Dp.seen {K : PySem.W.Frag} {d : Addr} {H : Hp} {x : V} {dat : PyData} (h : Dp K (hide d H) x dat) : Dp K H x dat := Dp.grow hide_le h

theorem mul60 : CMulW (10 ^ Int.toNat 60) (10 ^ Int.toNat 60) := by
  unfold CMulW
  decide +kernel
theorem pos60 : (0 : Int) < 10 ^ Int.toNat 60 * 10 ^ Int.toNat 60 := by decide +kernel
theorem mul45 : CMulW (10 ^ Int.toNat 45) (10 ^ Int.toNat 45) := by
  unfold CMulW
  decide +kernel
/-! ## the promises of the dice -/
def spDice (K : PySem.W.Frag) : Sp := fun vs H Q _ => ∃ (a : Addr) (ns : List Int) (i : Nat), vs = [.ref a, .int (i : Int)] ∧ SqL K H a (ns.map V.int) ∧ ns.length ≤ 1000 ∧
  ∀ (p : Addr) (l s c : Int), H p = none → Q (.ref p) (upd H p (.lst [.int l, .int s, .int c]))
def spRoll : Sp := fun vs H Q _ => ∃ (d : Addr) (t : Int), vs = [.ref d, .int t] ∧ DiceAt H d ∧ 0 < t ∧ t.natAbs.log2 < 9000 ∧
  ∀ (r : Int) (H' : Hp), 0 ≤ r → r < t → Mv d H H' → (∀ b, H b = none → H' b = none) → Q (.int r) H'
def spPick (K : PySem.W.Frag) : Sp := fun vs H Q _ => ∃ (d a : Addr) (xs : List V), vs = [.ref d, .ref a] ∧ DiceAt H d ∧ SqL K H a xs ∧ a ≠ d ∧ 0 < xs.length ∧ xs.length ≤ 1000 ∧
  ∀ (i : Nat) (x : V) (H' : Hp), xs[i]? = some x → Mv d H H' → (∀ b, H b = none → H' b = none) → Q x H'
theorem DpAll.map {K : PySem.W.Frag} {H : Hp} {α : Type} (f : α → V) (g : α → PyData) : ∀ (xs : List α), (∀ x ∈ xs, Dp K H (f x) (g x)) → DpAll K H (xs.map f) (xs.map g)
  | [], _ => .nil
  | x :: r, h => .cons (h x List.mem_cons_self) (DpAll.map f g r fun y hy => h y (List.mem_cons_of_mem _ hy))
theorem canAll {α : Type} (g : α → PyData) : ∀ (xs : List α), (∀ x ∈ xs, (g x).canLay0 = true) → PyData.canLayAll0 (xs.map g) = true
  | [], _ => by simp [PyData.canLayAll0]
  | x :: r, h => by
    simp only [List.map_cons, PyData.canLayAll0, h x List.mem_cons_self, canAll g r fun y hy => h y (List.mem_cons_of_mem _ hy), Bool.and_self]
theorem depthAll0 {α : Type} (n : Nat) (g : α → PyData) : ∀ (xs : List α), (∀ x ∈ xs, (g x).depth ≤ n) → PyData.depthAll (xs.map g) ≤ n
  | [], _ => by simp [PyData.depthAll]
  | x :: r, h => by
    have h1 := h x List.mem_cons_self
    have h2 := depthAll0 n g r fun y hy => h y (List.mem_cons_of_mem _ hy)
    simp only [List.map_cons, PyData.depthAll]
    omega

/-! ## readings by statements: what an expression's reading hands on is said in one place -/
section
variable {te : TE} {tt : TT} {i : Nat} {t1 t2 rest : TS} {D : Ends} {σ : L2.St} {H : Hp}
theorem go_nx {t : TS} {r : VK} {b c : L2.St → Hp → Prop} (h : t D σ H) : Ends.nx ⟨t D, r, b, c⟩ σ H := h
theorem a_set (R : V → Hp → Prop) (h : ∀ Q' : VK, (∀ v H', R v H' → Q' v H') → te σ H Q') (k : ∀ v H', R v H' → rest D (σ.set i (some v)) H') :
    tSeq (tAsg te (gName i)) rest D σ H := h _ k
theorem a_set1 (R : V → Hp → Prop) (h : ∀ Q' : VK, (∀ v H', R v H' → Q' v H') → te σ H Q') (k : ∀ v H', R v H' → D.nx (σ.set i (some v)) H') :
    tAsg te (gName i) D σ H := h _ k
theorem a_ret (R : V → Hp → Prop) (h : ∀ Q' : VK, (∀ v H', R v H' → Q' v H') → te σ H Q') (k : ∀ v H', R v H' → D.rt v H') : tRet te D σ H := h _ k
theorem a_if (R : Bool → Hp → Prop) (h : ∀ Q' : Bool → Hp → Prop, (∀ b H', R b H' → Q' b H') → tt σ H Q') (k1 : ∀ H', R true H' → t1 { D with nx := rest D } σ H') (k2 : ∀ H', R false H' → t2 { D with nx := rest D } σ H') :
    tSeq (tIfS tt t1 t2) rest D σ H := h _ fun b H' r => by
  cases b with
  | true => exact iteT (k1 H' r)
  | false => exact iteF (k2 H' r)
theorem a_if1 (R : Bool → Hp → Prop) (h : ∀ Q' : Bool → Hp → Prop, (∀ b H', R b H' → Q' b H') → tt σ H Q') (k1 : ∀ H', R true H' → t1 D σ H') (k2 : ∀ H', R false H' → t2 D σ H') :
    tIfS tt t1 t2 D σ H := h _ fun b H' r => by
  cases b with
  | true => exact iteT (k1 H' r)
  | false => exact iteF (k2 H' r)
end
end G

set_option Elab.async false
set_option linter.all false
set_option maxRecDepth 100000
set_option maxHeartbeats 2000000
namespace G
open PySem PySem.Spec PyProof.Rows L2
/-! ## values as data, dicts among them -/
def keyD : Key → PyData
  | .inl i => .int i
  | .inr z => .str z
mutual
inductive Dx (H : Hp) : V → PyData → Prop
  | non : Dx H .non .none
  | bl (b : Bool) : Dx H (.bl b) (.bool b)
  | int (i : Int) : Dx H (.int i) (.int i)
  | str (x : Str) : Dx H (.str x) (.str x)
  | lst {a : Addr} {xs : List V} {ds : List PyData} : H a = some (.lst xs) → DxAll H xs ds → Dx H (.ref a) (.list ds)
  | tup {a : Addr} {xs : List V} {ds : List PyData} : H a = some (.tup xs) → DxAll H xs ds → Dx H (.ref a) (.tuple ds)
  | dct {a : Addr} {kvs : List (Key × V)} {ps : List (PyData × PyData)} : H a = some (.dK kvs) → DxKv H kvs ps → Dx H (.ref a) (.dict ps)
inductive DxAll (H : Hp) : List V → List PyData → Prop
  | nil : DxAll H [] []
  | cons {v : V} {vs : List V} {d : PyData} {ds : List PyData} : Dx H v d → DxAll H vs ds → DxAll H (v :: vs) (d :: ds)
inductive DxKv (H : Hp) : List (Key × V) → List (PyData × PyData) → Prop
  | nil : DxKv H [] []
  | cons {k : Key} {v : V} {r : List (Key × V)} {d : PyData} {ps : List (PyData × PyData)} : Dx H v d → DxKv H r ps → DxKv H ((k, v) :: r) ((keyD k, d) :: ps)
end
mutual
theorem Dx.grow {H H' : Hp} (s : Same H H') : ∀ {x : V} {d : PyData}, Dx H x d → Dx H' x d
  | _, _, .non => .non
  | _, _, .bl b => .bl b
  | _, _, .int i => .int i
  | _, _, .str x => .str x
  | _, _, .lst h a => .lst (s _ _ h) (DxAll.grow s a)
  | _, _, .tup h a => .tup (s _ _ h) (DxAll.grow s a)
  | _, _, .dct h a => .dct (s _ _ h) (DxKv.grow s a)
theorem DxAll.grow {H H' : Hp} (s : Same H H') : ∀ {xs : List V} {ds : List PyData}, DxAll H xs ds → DxAll H' xs ds
  | _, _, .nil => .nil
  | _, _, .cons a b => .cons (Dx.grow s a) (DxAll.grow s b)
theorem DxKv.grow {H H' : Hp} (s : Same H H') : ∀ {xs : List (Key × V)} {ds : List (PyData × PyData)}, DxKv H xs ds → DxKv H' xs ds
  | _, _, .nil => .nil
  | _, _, .cons a b => .cons (Dx.grow s a) (DxKv.grow s b)
end
mutual
theorem Dx.dp {K : PySem.W.Frag} {H : Hp} : ∀ {x : V} {d : PyData}, Dx H x d → d.hasDict = false → Dp K H x d
  | _, _, .non, _ => .non
  | _, _, .bl b, _ => .bl b
  | _, _, .int i, _ => .int i
  | _, _, .str x, _ => .str x
  | _, _, .lst h a, n => .lst (SqL.of h) (DxAll.dp a (by simpa [PyData.hasDict] using n))
  | _, _, .tup h a, n => .tup (SqT.of h) (DxAll.dp a (by simpa [PyData.hasDict] using n))
  | _, _, .dct h a, n => by simp [PyData.hasDict] at n
theorem DxAll.dp {K : PySem.W.Frag} {H : Hp} : ∀ {xs : List V} {ds : List PyData}, DxAll H xs ds → PyData.hasDictAll ds = false → DpAll K H xs ds
  | _, _, .nil, _ => .nil
  | _, _, .cons a b, n => by
    rw [PyData.hasDictAll, Bool.or_eq_false_iff] at n
    exact .cons (Dx.dp a n.1) (DxAll.dp b n.2)
end
theorem DxAll.len {H : Hp} : ∀ {xs : List V} {ds : List PyData}, DxAll H xs ds → xs.length = ds.length
  | _, _, .nil => rfl
  | _, _, .cons _ b => by rw [List.length_cons, List.length_cons, DxAll.len b]
theorem DxAll.at {H : Hp} : ∀ {xs : List V} {ds : List PyData}, DxAll H xs ds → ∀ (i : Nat) (d : PyData), ds[i]? = some d → ∃ x, xs[i]? = some x ∧ Dx H x d
  | _, _, .nil, _, _, e => by cases e
  | _, _, .cons a b, 0, d, e => by
    cases e
    exact ⟨_, rfl, a⟩
  | _, _, .cons a b, i + 1, d, e => DxAll.at b i d e
theorem DxAll.get {H : Hp} : ∀ {xs : List V} {ds : List PyData}, DxAll H xs ds → ∀ (i : Nat) (x : V), xs[i]? = some x → ∃ d, ds[i]? = some d ∧ Dx H x d
  | _, _, .nil, _, _, e => by cases e
  | _, _, .cons a b, 0, d, e => by
    cases e
    exact ⟨_, rfl, a⟩
  | _, _, .cons a b, i + 1, d, e => DxAll.get b i d e
theorem DxAll.append {H : Hp} : ∀ {xs ys : List V} {ds es : List PyData}, DxAll H xs ds → DxAll H ys es → DxAll H (xs ++ ys) (ds ++ es)
  | _, _, _, _, .nil, h => h
  | _, _, _, _, .cons a b, h => .cons a (DxAll.append b h)
theorem DxAll.take {H : Hp} : ∀ {xs : List V} {ds : List PyData} (n : Nat), DxAll H xs ds → DxAll H (xs.take n) (ds.take n)
  | _, _, 0, _ => .nil
  | _, _, _ + 1, .nil => .nil
  | _, _, n + 1, .cons a b => .cons a (DxAll.take n b)
theorem DxAll.drop {H : Hp} : ∀ {xs : List V} {ds : List PyData} (n : Nat), DxAll H xs ds → DxAll H (xs.drop n) (ds.drop n)
  | _, _, 0, h => h
  | _, _, _ + 1, .nil => .nil
  | _, _, n + 1, .cons a b => DxAll.drop n b
theorem DxAll.rep {H : Hp} {x : V} {d : PyData} (h : Dx H x d) : ∀ n, DxAll H (List.replicate n x) (List.replicate n d)
  | 0 => .nil
  | n + 1 => .cons h (DxAll.rep h n)
def tyName : PyData → String
  | .none => "NoneType" | .bool _ => "bool" | .int _ => "int" | .str _ => "str" | .list _ => "list" | .tuple _ => "tuple" | .dict _ => "dict"
theorem Dx.ty {K : PySem.W.Frag} {H : Hp} {x : V} {d : PyData} (h : Dx H x d) : TyX K H x (.type (tyName d)) := by
  cases h with
  | non => exact .base .non
  | bl b => exact .base (.bl b)
  | int i => exact .base (.int i)
  | str x => exact .base (.str x)
  | lst h _ => exact .base (.lst h)
  | tup h _ => exact .base (.tup h)
  | dct h _ => exact .base (.dK h)
theorem Same.put {H H' : Hp} {p : Addr} {o : HO} (s : Same H H') (n : H p = none) : Same H (upd H' p o) := fun b u e => by
  rw [upd_ne (ne_of_none e n)]
  exact s b u e
/-- a judge: what it says hangs on the value's data alone -/
def spJ (f : PyData → Bool) : Sp := fun vs H Q _ => ∃ (x : V) (d : PyData), vs = [x] ∧ Dx H x d ∧ ∀ H', Same H H' → Q (.bl (f d)) H'
theorem Mv.ofSame {d : Addr} {H H1 H2 : Hp} (a : Mv d H H1) (s : Same H1 H2) : Mv d H H2 := by
  refine ⟨fun b u e => ?_, ?_⟩
  · have q := a.same b u e
    by_cases h : b = d
    · subst h
      rw [hide_at] at q
      cases q
    · rw [hide_ne h] at q ⊢
      exact s _ _ q
  · obtain ⟨l, t, c, q⟩ := a.dice
    exact ⟨l, t, c, s _ _ q⟩
theorem Mv.dx {d : Addr} {H H' : Hp} {x : V} {dat : PyData} (m : Mv d H H') (h : Dx (hide d H) x dat) : Dx (hide d H') x dat := Dx.grow m.same h
theorem Dx.seen {d : Addr} {H : Hp} {x : V} {dat : PyData} (h : Dx (hide d H) x dat) : Dx H x dat := Dx.grow hide_le h

/-! ## the program's judges of forms and rows, as functions of data -/
abbrev BIG : Int := 1000000000000000000000000000000000000000000000000000000000000
def smallB (i : Int) : Bool := decide (-BIG < i) && decide (i < BIG)
def intB : PyData → Bool
  | .int i => smallB i
  | _ => false
def pairB : PyData → Bool
  | .tuple [a, b] => intB a && intB b
  | _ => false
def sideB : PyData → Bool
  | .int i => decide (0 ≤ i) && decide (i ≤ 7)
  | _ => false
def formB : PyData → Bool
  | .tuple [a, b] => sideB a && sideB b
  | _ => false
def formsB : PyData → Bool
  | .tuple ds => decide (ds.length ≤ 200) && ds.all formB
  | _ => false
def zeroD : PyData := .tuple [.int 0, .int 0]
def rowB : PyData → Bool
  | .tuple ds => formsB (.tuple ds) && (ds.isEmpty || !PyData.eqv (ds.getLastD .none) zeroD)
  | _ => false

section
variable {X : Cx}
/-- min and max of a tuple of two numbers -/
def rBest (f : Int → Int → Int) : List V → Hp → VK → Prop := fun vs H Q => ∃ (a : Addr) (i j : Int), vs = [.ref a] ∧ H a = some (.tup [.int i, .int j]) ∧ Q (.int (f i j)) H
open PySem.W in
theorem cr_max2T (hc : X.calm = true) (hu : X.A.units + 64 < cLine) : CallR X (.builtin "max") (rBest max) := by
  intro pins s σ H vs us Q I r h
  obtain ⟨a, i, j, rfl, ha, q⟩ := h
  rw [Vals.ref1 r]
  obtain ⟨its, rv, hl, _⟩ := I.tuple (SqT.of (K := X.K) ha)
  obtain ⟨u1, u2, rfl, r1, r2⟩ := vals2 rv
  obtain ⟨t1, rfl⟩ := (show ∃ t, u1 = Value.int i t from r1)
  obtain ⟨t2, rfl⟩ := (show ∃ t, u2 = Value.int j t from r2)
  refine max_tuple_data (x := .int i) (xs := [.int j]) (I.ok.hd hc) hl (.cons (.int i t1) (.cons (.int j t2) .nil)) ?_ ?_ fun k v h' tk bs hv rd kp => ?_
  · exact ⟨fun x hx y hy => by
      rcases List.mem_cons.mp hx with rfl | hx <;> rcases List.mem_cons.mp hy with rfl | hy
      · rfl
      · rw [List.mem_singleton.mp hy]; rfl
      · rw [List.mem_singleton.mp hx]; rfl
      · rw [List.mem_singleton.mp hy, List.mem_singleton.mp hx]; rfl, fun x hx z => by
      rcases List.mem_cons.mp hx with rfl | hx
      · cases z
      · rw [List.mem_singleton.mp hx] at z
        cases z⟩
  · have e : PyData.depthAll [.int i, .int j] = 0 := by simp [PyData.depthAll, PyData.depth]
    rw [e]
    omega
  · have e : maxD (.int i) [.int j] = .int (max i j) := maxD_ints i [j]
    rw [e] at rd
    cases rd with
    | int _ t => exact ⟨.int _, H, I.kept kp, ⟨t, rfl⟩, q⟩
open PySem.W in
theorem cr_min2T (hc : X.calm = true) (hu : X.A.units + 64 < cLine) : CallR X (.builtin "min") (rBest min) := by
  intro pins s σ H vs us Q I r h
  obtain ⟨a, i, j, rfl, ha, q⟩ := h
  rw [Vals.ref1 r]
  obtain ⟨its, rv, hl, _⟩ := I.tuple (SqT.of (K := X.K) ha)
  obtain ⟨u1, u2, rfl, r1, r2⟩ := vals2 rv
  obtain ⟨t1, rfl⟩ := (show ∃ t, u1 = Value.int i t from r1)
  obtain ⟨t2, rfl⟩ := (show ∃ t, u2 = Value.int j t from r2)
  refine min_tuple_data (x := .int i) (xs := [.int j]) (I.ok.hd hc) hl (.cons (.int i t1) (.cons (.int j t2) .nil)) ?_ ?_ fun k v h' tk bs hv rd kp => ?_
  · exact ⟨fun x hx y hy => by
      rcases List.mem_cons.mp hx with rfl | hx <;> rcases List.mem_cons.mp hy with rfl | hy
      · rfl
      · rw [List.mem_singleton.mp hy]; rfl
      · rw [List.mem_singleton.mp hx]; rfl
      · rw [List.mem_singleton.mp hy, List.mem_singleton.mp hx]; rfl, fun x hx z => by
      rcases List.mem_cons.mp hx with rfl | hx
      · cases z
      · rw [List.mem_singleton.mp hx] at z
        cases z⟩
  · have e : PyData.depthAll [.int i, .int j] = 0 := by simp [PyData.depthAll, PyData.depth]
    rw [e]
    omega
  · have e : minD (.int i) [.int j] = .int (min i j) := minD_ints i [j]
    rw [e] at rd
    cases rd with
    | int _ t => exact ⟨.int _, H, I.kept kp, ⟨t, rfl⟩, q⟩
end
/-! ## tuples put together, cut and repeated, over data -/
theorem fresh_same {d p : Addr} {H : Hp} {o : HO} (hd : DiceAt H d) (n : H p = none) : Same (hide d H) (hide d (upd H p o)) := ((Mv.refl hd).new n).same
theorem OpR.to {X : Cx} {f : Value → Value → Sem Value} {r r' : R2} (h : OpR X f r) (i : ∀ x y H Q, r' x y H Q → r x y H Q) : OpR X f r' :=
  fun pins s σ H x y v u Q I rx ry q => h pins s σ H x y v u Q I rx ry (i _ _ _ _ q)
theorem Dx.tupOf {H : Hp} {x : V} {ds : List PyData} (h : Dx H x (.tuple ds)) : ∃ a xs, x = .ref a ∧ H a = some (.tup xs) ∧ DxAll H xs ds := by
  cases h with
  | tup h1 h2 => exact ⟨_, _, rfl, h1, h2⟩
def rCatD : R2 := fun x y H Q => ∃ (d : Addr) (ds es : List PyData), DiceAt H d ∧ Dx (hide d H) x (.tuple ds) ∧ Dx (hide d H) y (.tuple es) ∧ ds.length + es.length ≤ 100000 ∧
  ∀ v H', Mv d H H' → Dx (hide d H') v (.tuple (ds ++ es)) → Q v H'
theorem op_catD {X : Cx} : OpR X (binaryOp .Add) rCatD := by
  refine OpR.to op_catA fun x y H Q h => ?_
  obtain ⟨d, ds, es, hd, hx, hy, hl, k⟩ := h
  obtain ⟨a, xs, rfl, ha, hxs⟩ := hx.tupOf
  obtain ⟨b, ys, rfl, hb, hys⟩ := hy.tupOf
  have l1 := hxs.len
  have l2 := hys.len
  refine ⟨a, b, xs, ys, rfl, rfl, SqT.of (hide_le _ _ ha), SqT.of (hide_le _ _ hb), Nat.le_trans (show xs.length + ys.length ≤ 100000 by omega) (by decide), fun e => ?_, fun _ e => ?_, fun _ _ p np => ?_⟩
  · subst e
    cases hxs
    exact k _ _ (Mv.refl hd) hy
  · subst e
    cases hys
    refine k _ _ (Mv.refl hd) ?_
    rw [List.append_nil]
    exact hx
  · refine k _ _ ((Mv.refl hd).new np) (.tup (by rw [hide_ne (hd.ne np)]; exact upd_same) (DxAll.grow (fresh_same hd np) (hxs.append hys)))
/-- the part of a tuple that a slice takes -/
def cutD (ds : List PyData) (lo hi : Option Int) : List PyData := (ds.drop (HT.sIx ds.length 0 lo)).take (HT.sIx ds.length ds.length hi - HT.sIx ds.length 0 lo)
def rSlD : V → Option Int → Option Int → Hp → VK → Prop := fun x lo hi H Q => ∃ (d : Addr) (ds : List PyData), DiceAt H d ∧ Dx (hide d H) x (.tuple ds) ∧
  ∀ v H', Mv d H H' → Dx (hide d H') v (.tuple (cutD ds lo hi)) → Q v H'
theorem sl_tupD {X : Cx} : SlR X rSlD := by
  intro pins s σ H x v vl vu lo hi sl Q I rx hs pl pu h
  obtain ⟨d, ds, hd, hx, k⟩ := h
  obtain ⟨a, xs, rfl, ha, hxs⟩ := hx.tupOf
  have l1 := hxs.len
  refine sl_tupA pins s σ H (.ref a) v vl vu lo hi sl Q I rx hs pl pu ⟨a, xs, rfl, SqT.of (hide_le _ _ ha), fun e => ?_, fun _ p np => ?_⟩
  · refine k _ _ (Mv.refl hd) ?_
    have e2 : cutD ds lo hi = ds := by
      unfold cutD
      rw [← l1, e.1, e.2]
      simp [l1]
    rw [e2]
    exact hx
  · refine k _ _ ((Mv.refl hd).new np) (.tup (by rw [hide_ne (hd.ne np)]; exact upd_same) (DxAll.grow (fresh_same hd np) ?_))
    have e2 : cutV xs lo hi = (xs.drop (HT.sIx ds.length 0 lo)).take (HT.sIx ds.length ds.length hi - HT.sIx ds.length 0 lo) := by
      unfold cutV
      rw [l1]
    rw [e2]
    exact (hxs.drop _).take _
def rRepD : R2 := fun x y H Q => ∃ (d : Addr) (k : Int) (ds : List PyData), y = .int k ∧ DiceAt H d ∧ Dx (hide d H) x (.tuple ds) ∧ ds ≠ [] ∧ 2 ≤ k ∧ k ≤ 1000 ∧ ds.length ≤ 1000 ∧
  ∀ v H', Mv d H H' → Dx (hide d H') v (.tuple (List.replicate k.toNat ds).flatten) → Q v H'
theorem DxAll.flat {H : Hp} {xs : List V} {ds : List PyData} (h : DxAll H xs ds) : ∀ n, DxAll H (List.replicate n xs).flatten (List.replicate n ds).flatten
  | 0 => .nil
  | n + 1 => by
    rw [List.replicate_succ, List.replicate_succ, List.flatten_cons, List.flatten_cons]
    exact h.append (DxAll.flat h n)
theorem op_repD {X : Cx} : OpR X (binaryOp .Mult) rRepD := by
  refine OpR.to op_repT fun x y H Q h => ?_
  obtain ⟨d, n, ds, rfl, hd, hx, h0, h2, h3, h4, k⟩ := h
  obtain ⟨a, xs, rfl, ha, hxs⟩ := hx.tupOf
  have l1 := hxs.len
  refine ⟨a, n, xs, rfl, rfl, SqT.of (hide_le _ _ ha), fun e => ?_, h2, h3, by omega, fun p np => ?_⟩
  · subst e
    cases hxs
    exact h0 rfl
  · exact k _ _ ((Mv.refl hd).new np) (.tup (by rw [hide_ne (hd.ne np)]; exact upd_same) (DxAll.grow (fresh_same hd np) (hxs.flat n.toNat)))
/-- a value picked out of a list of known data -/
theorem picked {d : Addr} {H H' : Hp} {xs : List V} {ds : List PyData} {i : Nat} {x : V} (h : DxAll (hide d H) xs ds) (m : Mv d H H') (e : xs[i]? = some x) : ∃ dat, dat ∈ ds ∧ Dx (hide d H') x dat := by
  obtain ⟨dat, h1, h2⟩ := h.get i x e
  exact ⟨dat, List.mem_of_getElem? h1, h2.grow m.same⟩
end G

set_option Elab.async false
set_option linter.all false
set_option maxRecDepth 100000
set_option maxHeartbeats 4000000
namespace G
open PySem PySem.Spec PyProof.Rows L2 HT
/-! ## a tuple read backwards: t[::-1] -/
theorem all_places {α : Type} : ∀ l : List α, (List.range l.length).filterMap (fun k => l[k]?) = l
  | [] => rfl
  | x :: r => by
    have ih := all_places r
    rw [List.length_cons, List.range_succ_eq_map, List.filterMap_cons]
    show x :: List.filterMap (fun k => (x :: r)[k]?) (List.map Nat.succ (List.range r.length)) = x :: r
    rw [List.filterMap_map]
    exact congrArg (x :: ·) ih
theorem fm_congr {α β : Type} {f g : α → Option β} : ∀ l : List α, (∀ x ∈ l, f x = g x) → l.filterMap f = l.filterMap g
  | [], _ => rfl
  | x :: r, h => by
    rw [List.filterMap_cons, List.filterMap_cons, h x List.mem_cons_self, fm_congr r fun y hy => h y (List.mem_cons_of_mem _ hy)]
theorem back_items (xs : Array Value) : ((List.range xs.size).filterMap fun (k : Nat) => xs[(((xs.size : Int) - 1) + (k : Int) * (-1)).toNat]?).toArray = xs.toList.reverse.toArray := by
  congr 1
  have e := all_places xs.toList.reverse
  rw [List.length_reverse, Array.length_toList] at e
  rw [← e]
  refine fm_congr _ fun k hk => ?_
  have hk' : k < xs.size := List.mem_range.mp hk
  rw [show (((xs.size : Int) - 1) + (k : Int) * (-1)).toNat = xs.size - 1 - k by omega]
  rw [← Array.getElem?_toList, List.getElem?_reverse (by rw [Array.length_toList]; exact hk'), Array.length_toList]
section
variable {prog : Program} {w : World} {A : Around} {E : Value → Shared → Prop} {s : Shared}
theorem applied_back {sl : Addr} {vl vu vs : Value} {n : Nat} {Q : Int × Int × Nat → Shared → Prop} (hs : s.heap.IsSliceOf sl vl vu vs) (pl : IsPart vl none) (pu : IsPart vu none) (ps : IsPart vs (some (-1)))
    (h : Q ((n : Int) - 1, -1, n) s) : wpAny (model prog w) A (Builtin.Slice.sliceApplied (.ref sl) (pure (n : Int))) Q E s := by
  obtain ⟨so, so1, so2, so3⟩ := id hs
  unfold Builtin.Slice.sliceApplied Builtin.Slice.sliceFields
  refine wpAny_bind (wpAny_bind (wpAny_field so1 so3 (x := vl) rfl (wpAny_bind (wpAny_field so1 so3 (x := vu) rfl (wpAny_bind (wpAny_field so1 so3 (x := vs) rfl (wpAny_pure ?_)))))))
  refine wpAny_bind (slicePart_ ps ?_)
  show wpAny _ _ (if ((-1 : Int) == 0) = true then _ else _) _ _ s
  rw [if_neg (by decide)]
  refine wpAny_bind (slicePart_ pl (wpAny_bind (slicePart_ pu (wpAny_bind (wpAny_pure ?_)))))
  have e1 : Builtin.Slice.sliceAdjust none none (-1) (n : Int) = ((n : Int) - 1, -1) := rfl
  have e2 : Builtin.Slice.slicePlaces ((n : Int) - 1) (-1) (-1) = n := by
    unfold Builtin.Slice.slicePlaces
    rw [if_neg (by decide)]
    by_cases q : (n : Int) - 1 > -1
    · rw [if_pos q]
      have : ((n : Int) - 1 - -1 - 1) / - -1 = (n : Int) - 1 - -1 - 1 := by
        rw [Int.neg_neg, Int.ediv_one]
      rw [this]
      omega
    · rw [if_neg q]
      omega
  show wpAny _ _ (match Builtin.Slice.sliceAdjust none none (-1) (n : Int) with | (lo, hi) => pure (lo, (-1 : Int), Builtin.Slice.slicePlaces lo hi (-1))) _ _ s
  rw [e1]
  show wpAny _ _ (pure ((n : Int) - 1, (-1 : Int), Builtin.Slice.slicePlaces ((n : Int) - 1) (-1) (-1))) _ _ s
  rw [e2]
  exact wpAny_pure h
theorem item_back {t sl : Addr} {items : Array Value} {vl vu vs : Value} {Q : Value → Shared → Prop} (ht : IsTup s.heap t items) (hs : s.heap.IsSliceOf sl vl vu vs) (pl : IsPart vl none) (pu : IsPart vu none) (ps : IsPart vs (some (-1)))
    (h : Q (.ref s.heap.objs.size) { s with heap := s.heap.push { cls := .type "tuple", data := .seq items.toList.reverse.toArray } }) (hsz : items.size ≤ sizeLine) : wpAny (model prog w) A (getItem (.ref t) (.ref sl)) Q E s := by
  have fits : sizeOk (.seq items.toList.reverse.toArray) := by
    show items.toList.reverse.toArray.size ≤ sizeLine
    rw [List.size_toArray, List.length_reverse, Array.length_toList]
    exact hsz
  obtain ⟨so, so1, so2, so3⟩ := id hs
  have kind : s.TypeIs (.ref sl) "slice" := ⟨so, so1, so2⟩
  unfold getItem
  try with_reducible refine wpAny_holding ?_
  first | refine wpAny_bind (wpAny_pure ?_) | skip
  refine wpAny_bind (wpAny_sequenceKey ht.typeIs (by decide) ?_)
  refine wpAny_bind (wpAny_callSpecial?_slot (name := Str.ofString "__getitem__") ht.typeIs PyProof.Rows.slot_tuple_getitem (wpAny_call_entry PyProof.Rows.slot_tuple_getitem ht.typeIs entry_tuple_getitem ?_ (args_tuple_getitem _ _)))
  show wpAny _ _ (Builtin.Tuple.tupleItemsOf (.ref t) >>= _) _ _ s
  refine wpAny_bind (tupleItemsOf_ ht (wpAny_bind (wpAny_typeOf kind ?_)))
  rw [if_pos (by decide)]
  refine wpAny_bind (applied_back hs pl pu ps ?_)
  have part : ¬ ((((items.size : Int) - 1) == 0 && (-1 : Int) == 1 && items.size == items.size) = true) := by
    intro q
    rw [Bool.and_eq_true, Bool.and_eq_true] at q
    exact absurd q.1.2 (by decide)
  show wpAny _ _ (if (((items.size : Int) - 1) == 0 && (-1 : Int) == 1 && items.size == items.size) = true then _ else _) _ _ s
  rw [if_neg part, back_items]
  first
    | exact wpAny_bind (m := Builtin.Tuple.tupleExact _) (wpAny_newObj_type (wpAny_pure ⟨_, rfl, wpAny_pure h⟩) fits)
    | exact wpAny_bind (m := Builtin.Tuple.tupleExact _) (wpAny_newObj_type (wpAny_bind (wpAny_pure (wpAny_pure ⟨_, rfl, wpAny_pure h⟩))) fits)
    | exact wpAny_bind (wpAny_bind (m := Builtin.Tuple.tupleExact _) (wpAny_newObj_type (wpAny_pure (wpAny_pure ⟨_, rfl, wpAny_pure h⟩)) fits))
    | exact wpAny_bind (wpAny_bind (m := Builtin.Tuple.tupleExact _) (wpAny_newObj_type (wpAny_pure ⟨_, rfl, wpAny_pure h⟩) fits))
end
def tRevT (K : PySem.W.Frag) (te : TE) : TE := fun σ H Q => te σ H fun x H1 => ∃ a xs, x = .ref a ∧ SqT K H1 a xs ∧ ∀ p, H1 p = none → Q (.ref p) (upd H1 p (.tup xs.reverse))
theorem pe_revT {X : Cx} {e : Expr} {te : TE} {k : Nat} {p1 p2 p3 pos : Pos} (he : PE X e te) : PE X (.Subscript e (.Slice none none (some (.UnaryOp .USub (.Constant (.int 1) k p1) p2)) p3) pos) (tRevT X.K te) := by
  constructor
  intro pins s σ H Q I h
  refine Subscript_ (thn (he.run pins s σ H _ I h) fun v s1 hv => ?_)
  obtain ⟨x, H1, I1, r1, a, xs, rfl, hx, q⟩ := hv
  cases r1
  have stp : PO X (some (.UnaryOp .USub (.Constant (.int 1) k p1) p2)) (tPart (tUn (rU fun i => .int (-i)) (tC (.int 1)))) := po_some (pe_un un_neg pe_int)
  refine wpAny_Slice (thn (po_none.run pins s1 σ H1 (fun o G => o = none ∧ G = H1) I1 ⟨rfl, rfl⟩) fun vl s2 hl => ?_)
  obtain ⟨l, H2, I2, pl, rfl, rfl⟩ := hl
  refine thn (po_none.run pins s2 σ H2 (fun o G => o = none ∧ G = H2) I2 ⟨rfl, rfl⟩) fun vu s3 hu => ?_
  obtain ⟨u, H3, I3, pu, rfl, rfl⟩ := hu
  refine thn (stp.run pins s3 σ H3 (fun o G => o = some (-1) ∧ G = H3) I3 ⟨1, rfl, -1, rfl, rfl, rfl⟩) fun vs s4 ho => ?_
  obtain ⟨o, H4, I4, ps, rfl, rfl⟩ := ho
  have I5 : Inv X pins σ H4 { s4 with heap := s4.heap.push { cls := .type "slice", data := .fields #[vl, vu, vs] } } := I4.kept (t' := s4.toks) fun b ob z => Heap.get?_push_of_some _ z
  obtain ⟨its, r, ht, hz⟩ := I5.tuple hx
  have hlen := r.length
  show wpAny (model X.prog X.w) X.A (subscriptTail e (.Slice none none (some (.UnaryOp .USub (.Constant (.int 1) k p1) p2)) p3) (.ref a) (.ref s4.heap.objs.size)) (EP X pins σ Q) X.xe { s4 with heap := s4.heap.push { cls := .type "slice", data := .fields #[vl, vu, vs] } }
  refine tail_any (ops := [.ref a, .ref s4.heap.objs.size]) ht.typeIs (PyProof.Rows.slot_tuple_getitem.lookup) ?_ (by with_unfolding_all rfl)
  refine item_back ht (Heap.IsSliceOf.new _ vl vu vs) pl pu ps ?_ (by rw [List.size_toArray]; omega)
  refine ⟨.ref _, _, I5.laid (t' := s4.toks) (o := .tup xs.reverse) (fun b ob z => Heap.get?_push_of_some _ z) (Nat.le_refl _) ?_, rfl, q _ (I5.hok.fresh (Nat.le_refl _))⟩
  refine ⟨by rw [List.length_reverse]; exact hz, its.reverse, r.reverse, _, Heap.get?_push_size _ rfl, rfl, 0, ?_⟩
  simp
end G

set_option Elab.async false
set_option linter.all false
set_option maxRecDepth 100000
set_option maxHeartbeats 4000000
namespace G
open PySem PySem.Spec PyProof.Rows L2
/-! ## Promises of defs that may raise (guards empty) -/
theorem okGX {P : Program} {w : World} {K : PySem.W.Frag} {mg : Str → Option Value} {base : Heap} {x qual : Str} {st : Stmt} {f : Addr} {fd : FuncData}
    {N ps : List Str} {k : Nat} {sp : Sp} (F : Fun K x qual st f fd) (S : FnScope N ps (defScope st)) (len : ∀ xs H Q E, sp xs H Q E → xs.length = ps.length)
    (hbody : ∀ (cdv : Value) (A : Around) (out : List Env) (s : Shared) (H : Hp) (xs : List V) (Q : VK) (E : XK), A.guards = some [] →
      Room k (A.deeper (envOfC qual (defScope st) s.heap.objs.size f cdv)) → sp xs H Q E →
      ∃ t, PSs (cxOf (L2.CX P w) P w K mg base N qual (defScope st) f cdv A out s H E) (defBody st) t ∧
        t { nx := fun _ H' => Q .non H', rt := Q } (start N xs) H) :
    FnG P w K mg base (L2.CX P w) (k + 1) f fd ps sp := by
  obtain ⟨oc, od, kV, doc, pm, an, cdv, ct, osl, rfl, lk, hcd⟩ := F.ex
  constructor
  · exact len
  intro A out s H args us xs Q E gA hr e0 hb r hsp
  have old : ∀ b o, base.get? b = some o → s.heap.get? b = some o := fun b o q => (e0.bs b o q).1
  have KX : K.In s.heap := e0.mod.kin.keeps old
  have lim : s.heap.NoLimit := e0.mod.nolimit.keeps old
  refine codeAny_call_function hr.depth (KX _ _ lk) rfl S.co S.gen rfl (PySem.W.codeRec_of KX hcd) (hb _ _ _ _ ?_)
  refine wpAny_newFunctionEnv_cells S.kind (fun y hy => ?_) fun env he s1 x1 => ?_
  · have q := S.par y.1 (List.of_mem_zip (a := y.1) (b := y.2) hy).1
    exact q.elim .inl fun q => .inr ⟨q, PySem.W.cellsFrom_some _ _ _ (.inl q)⟩
  · subst he
    refine ⟨lim.keeps x1.toInCall.keep, codeAny_func ?_⟩
    obtain ⟨t, ht, hq⟩ := hbody cdv A out s H xs Q E gA (hr.deeper _) hsp
    have I := inv_start (CX := L2.CX P w) (P := P) (w := w) (K := K) (mg := mg) (base := base) (N := N) (ps := ps) (E := E) S hr.hd e0 (len _ _ _ _ hsp) r x1
    refine wpAny_mono (ht.run [] s1 (start N xs) H _ I hq) (fun fl s2 hs => ?_) fun _ _ z => z
    match fl, hs with
    | .ret u, ⟨v, σ', H', J, rv, q⟩ => exact ⟨v, H', J.os, J.bare, J.base, J.hok, rv, q⟩
    | .next, ⟨σ', H', J, q⟩ => exact ⟨V.non, H', J.os, J.bare, J.base, J.hok, rfl, q⟩
    | .brk, ⟨_, _, _, q⟩ => exact q.elim
    | .cont, ⟨_, _, _, q⟩ => exact q.elim
structure CalX (P : Program) (w : World) (K : PySem.W.Frag) (mg : Str → Option Value) (base : Heap) (k : Nat) (x : Str) (ps : List Str) (sp : Sp) : Prop where
  ex : ∃ f fd, FnG P w K mg base (L2.CX P w) k f fd ps sp ∧ mg x = some (.ref f) ∧ PySem.W.keepIn K (.ref f) = true ∧ Binds K fd ps []
theorem calOkX {P : Program} {w : World} {K : PySem.W.Frag} {mg : Str → Option Value} {base : Heap} {x : Str} {st : Stmt} {N ps : List Str} {k : Nat} {sp : Sp}
    (D : DefAt K mg x st ps) (S : FnScope N ps (defScope st)) (len : ∀ xs H Q E, sp xs H Q E → xs.length = ps.length)
    (hbody : ∀ (f : Addr) (cdv : Value) (A : Around) (out : List Env) (s : Shared) (H : Hp) (xs : List V) (Q : VK) (E : XK), A.guards = some [] →
      Room k (A.deeper (envOfC x (defScope st) s.heap.objs.size f cdv)) → sp xs H Q E →
      ∃ t, PSs (cxOf (L2.CX P w) P w K mg base N x (defScope st) f cdv A out s H E) (defBody st) t ∧
        t { nx := fun _ H' => Q .non H', rt := Q } (start N xs) H) : CalX P w K mg base (k + 1) x ps sp := by
  obtain ⟨f, fd, F, m, b⟩ := D.ex
  exact ⟨f, fd, okGX F S len (hbody f), m, F.kp, Binds.all b⟩
section
variable {X : Cx} {CX : CXT} {k j : Nat} {f : Addr} {fd : FuncData} {ps : List Str} {sp : Sp} {E : L2.St → XK} {x : Str} {p pos : Pos} {e : Expr} {es : List Expr} {t : TA}
theorem runGS {pins : List (Addr × Obj)} {σ : L2.St} {H : Hp} {s : Shared} {Q : VK} {us : List Value} {xs : List V}
    (F : FnG X.prog X.w X.K X.mg X.base CX k f fd ps sp) (hgd : X.A.guards = some []) (hr : Room k X.A) (hb : Binds X.K fd ps []) (hx : PassesAt CX X σ (E σ))
    (I : Inv X pins σ H s) (r : Vals xs us) (h : sp xs H Q (E σ)) : wpAny (model X.prog X.w) X.A (call (.ref f) us) (EP X pins σ Q) X.xe s := by
  have sz : us.length = ps.length := r.length.symm.trans (F.len _ _ _ _ h)
  have body := F.go X.A X.stack s H ⟨us, []⟩ us xs Q (E σ) hgd hr I.env0 (by have := hb s us I.kIn (by rw [List.append_nil]; exact sz); rwa [List.append_nil] at this) r h
  refine wpAny_call (codeAny_mono body fun res t hq => ?_)
  match res, hq with
  | .error e, hq => exact hx pins H s e t I hq
  | .ok (.ret u), hq => exact I.after hq
  | .ok .next, hq => exact hq.elim
  | .ok .brk, hq => exact hq.elim
  | .ok .cont, hq => exact hq.elim
theorem pe_gS (F : FnG X.prog X.w X.K X.mg X.base CX k f fd ps sp)
    (hgd : X.A.guards = some []) (hr : Room k X.A) (hg : Gl X x) (hm : X.mg x = some (.ref f)) (hk : PySem.W.keepIn X.K (.ref f) = true)
    (hb : Binds X.K fd ps []) (hx : ∀ σ, PassesAt CX X σ (E σ)) (ha : PA X (e :: es) t)
    (hdb : (x == ("__debug__" : Str)) = false := by decide)
    (he : starEach (e :: es) X.env = (false, eval e X.env) :: starEach es X.env := by rfl)
    (hpl : (backTo pos (starEach es X.env)).any (·.1) = false := by rfl) :
    PE X (.Call (.Name x p) (e :: es) [] pos) (tCallS sp E t) :=
  ⟨fun pins s σ H Q I h => wpAny_Call_Name_kw (ld_glob I hg hm
    (PySem.W.callWith_K (h₀ := X.base) I.ok.mod.kin hk
      (thn (ha.run pos pins s σ H _ I h) fun us s1 ⟨xs, H1, I1, r, q⟩ => ⟨I1.kIn, runGS F hgd hr hb (hx σ) I1 r q⟩) he hpl) hdb)⟩
/-- a call of a def that may raise; what it lets out goes on to W -/
theorem pe_kx {W : WX} (c : CalX X.prog X.w X.K X.mg X.base k x ps sp) (tk : Takes X W) (hgd : X.A.guards = some []) (hr : Room j X.A) (hk : k ≤ j) (hg : Gl X x) (ha : PA X (e :: es) t)
    (hdb : (x == ("__debug__" : Str)) = false := by decide)
    (he : starEach (e :: es) X.env = (false, eval e X.env) :: starEach es X.env := by rfl)
    (hpl : (backTo pos (starEach es X.env)).any (·.1) = false := by rfl) :
    PE X (.Call (.Name x p) (e :: es) [] pos) (tCallS sp (WE W) t) := by
  obtain ⟨f, fd, F, m, kp, b⟩ := c.ex
  exact pe_gS F hgd (hr.mono hk) hg m kp b (fun σ => passAt tk σ) ha hdb he hpl
end
/-- a class of the text that is an exception over a built-in one, without an own __init__ -/
structure ErrAt (K : PySem.W.Frag) (mg : Str → Option Value) (x : Str) (C : Addr) (bm : List Value) (nid : String) : Prop where
  at_ : mg x = some (.ref C)
  exc : PySem.W.excIn K C bm nid = true
  keep : PySem.W.keepIn K (.ref C) = true
  base : PySem.W.subIn K (.ref C) (.type "BaseException") = some true
  ty : PySem.W.typeIn K (.ref C) = some (.type "type")
abbrev veL : List Value := [.type "ValueError", .type "Exception", .type "BaseException", .type "object"]
end G

set_option Elab.async false
set_option linter.all false
set_option maxRecDepth 100000
set_option maxHeartbeats 4000000
namespace G
open PySem PySem.W PySem.Calls PyProof.Rows
section
variable {prog : Program} {w : World} {A : Around} {E : Value → Shared → Prop} {R : Result → Shared → Prop} {s : Shared} {K : Frag} {B : String} {bmB : List Value}
/-- a local name of a def without cells -/
theorem ld_own {M : Model} {s : Shared} {name : Str} {scope : Scope} {L a : Addr} {cd : Value} {m : Str → Option Value} {x : Str} {pos : Pos} {v : Value} {Q : Value → Shared → Prop} {A : Around} {E : Value → Shared → Prop} (hn : s.heap.Ns L m) (hv : m x = some v) (h : Q v s)
    (hk : scope.kind = .function := by rfl) (hl : (envOfC name scope L a cd).kindOf x = some .local := by rfl) (hd : (x == ("__debug__" : Str)) = false := by decide) :
    wpAny M A (eval (.Name x pos) (envOfC name scope L a cd)) Q E s := wpAny_Name (wpAny_loadName_local hk hl hn hv h) hd
/-- the first field that is stored in a fresh exception of any base -/
theorem first_store {name : Str} {tk : Tok} {v : Value} {x C t : Addr} (SF : StoreFacts B bmB "object.__setattr__" "object") (X : K.In s.heap) (hx : s.heap.get? x = some (excObj C t none .none)) (ov : excOver K C bmB = true) (tn : takerIn K C name = some none) (hd : hasDictIn K C = true)
    (hq : ∀ h' tk' dx, (∀ b o, b ≠ x → s.heap.get? b = some o → h'.get? b = some o) → s.heap.objs.size ≤ dx → dx ≠ x → h'.get? x = some (excObj C t (some dx) .none) →
      h'.Ns1 dx (fun y => if y = name then some v else none) → R (.ok (.ret .none)) { s with heap := h', toks := tk' }) :
    codeAny (model prog w) A (.call (.builtin "object.__setattr__") ⟨[.ref x, .str name tk, v], []⟩) R s := by
  have low : x < s.heap.objs.size := Heap.lt_size hx
  refine osa_openX (od := none) SF X ⟨hx, rfl, rfl, trivial⟩ ov tn fun b => ?_
  obtain ⟨cd, hc, hd'⟩ := any_some hd
  refine wpAny_bind (wpAny_pure (wpAny_bind (instanceDict_exc hx (looks_clsIn X hc) hd' ?_)))
  have ne : x ≠ s.heap.objs.size := Nat.ne_of_lt low
  have hp : (s.heap.push (dictOf [] 0)).get? x = some (excObj C t none .none) := Heap.get?_push_of_some _ hx
  refine PySem.HandSPX.store_in_new (hp := (s.heap.push (dictOf [] 0)).update x fun o => { o with dict := some s.heap.objs.size }) ⟨_, #[], _, (Heap.get?_update_ne _ _ _ _ ne.symm).trans (Heap.get?_push_size _ rfl), rfl, fun e he => absurd he (by simp), fun _ => rfl⟩ fun h' tk' n sb => ?_
  refine hq h' tk' s.heap.objs.size (fun y o hy e => ?_) (Nat.le_refl _) ne.symm ?_ n
  · exact (sb.2 y (Nat.ne_of_lt (Heap.lt_size e))).trans ((Heap.get?_update_ne _ _ _ _ hy).trans (Heap.get?_push_of_some _ e))
  · exact (sb.2 x ne).trans (Heap.get?_update_self _ hp rfl)
end
end G

set_option Elab.async false
set_option linter.all false
set_option maxRecDepth 100000
set_option maxHeartbeats 4000000
namespace G
open PySem PySem.Spec PyProof.Rows L2
/-! ## try with clauses of both kinds: `except A:` and `except B as e:` -/
/-- behind a suite that had the error's name in slot i -/
def gone (i : Nat) (D : Ends) : Ends := { nx := fun σ H => D.nx (σ.set i none) H, rt := D.rt, bk := fun σ H => D.bk (σ.set i none) H, ct := fun σ H => D.ct (σ.set i none) H }
abbrev Clause := Value × Option Nat × (Addr → Value → Option Addr → TS)
def wMix (K : PySem.W.Frag) (Wout : WX) (D : Ends) : List Clause → WX
  | [] => Wout
  | (c, n, ts) :: r => fun cls d σ H => ∃ b, PySem.W.exmOne K cls c = some b ∧
      (b = true → ∀ a, H a = none → match n with | none => ts a cls d D σ H | some i => i < σ.length → ts a cls d (gone i D) (σ.set i (some (.ref a))) H) ∧ (b = false → wMix K Wout D r cls d σ H)
inductive MixOk (X : Cx) : List ExceptHandler → List Clause → Prop
  | nil : MixOk X [] []
  | plain {x : Str} {c : Value} {ts : Addr → Value → Option Addr → TS} {b0 : Stmt} {bs : List Stmt} {np hp : Pos} {hds : List ExceptHandler} {l : List Clause} (hc : Names X x c)
      (su : ∀ (a : Addr) (oe : Obj) (cls : Value) (d : Option Addr) (pn : List (Addr × Obj)), Zc cls d oe → (∃ vs, oe.data = .fields vs) → X.base.get? a = none → PSs (X.suite a ((a, oe) :: pn)) (b0 :: bs) (ts a cls d)) (r : MixOk X hds l) :
      MixOk X (.ExceptHandler (some (.Name x np)) none (b0 :: bs) hp :: hds) ((c, none, ts) :: l)
  | named {x n : Str} {i : Nat} {c : Value} {ts : Addr → Value → Option Addr → TS} {b0 : Stmt} {bs : List Stmt} {np hp : Pos} {hds : List ExceptHandler} {l : List Clause} (hc : Names X x c) (hN : X.N.Nodup) (hi : X.N[i]? = some n) (hl : X.env.kindOf n = some .local)
      (su : ∀ (a : Addr) (oe : Obj) (cls : Value) (d : Option Addr) (pn : List (Addr × Obj)), Zc cls d oe → (∃ vs, oe.data = .fields vs) → X.base.get? a = none → PSs (X.suite a ((a, oe) :: pn)) (b0 :: bs) (ts a cls d)) (r : MixOk X hds l) :
      MixOk X (.ExceptHandler (some (.Name x np)) (some n) (b0 :: bs) hp :: hds) ((c, some i, ts) :: l)
section
variable {X : Cx} {body : List Stmt} {h0 : ExceptHandler} {hds : List ExceptHandler} {l : List Clause} {pos : Pos} {tb : WX → TS} {Wout : WX}
theorem ps_mix (hs : X.stack = X.env :: X.outer) (hf : X.env.frame = some X.env.locals) (tk : Takes X Wout)
    (hb : ∀ (W : WX) (pn : List (Addr × Obj)) (xe : Value → Shared → Prop), Takes (X.tr pn xe) W → PassesOwn (model X.prog X.w) X.A X.env xe → PSs (X.tr pn xe) body (tb W))
    (hh : MixOk X (h0 :: hds) l) : PS X (.Try body (h0 :: hds) [] [] pos) (fun D σ H => tb (wMix X.K Wout D l) D σ H) := by
  constructor
  intro pins s σ H D I h
  have ok := I.ok
  have frames : X.A.frames = some (X.env :: X.outer) := ok.frames.trans (congrArg some hs)
  -- what meets an error that the body lets out
  let meets : Value → Shared → Prop := fun e s1 => wpAny (model X.prog X.w) X.A (noteFrame e X.env) (fun _ s2 => wpAny (model X.prog X.w) X.A (setFlight e none) (fun _ s3 => wpAny (model X.prog X.w) X.A (handleBy e X.env (h0 :: hds)) (SP X pins D) X.xe s3) X.xe s2) X.xe s1
  have catches : Takes (X.tr (X.pn ++ pins) meets) (wMix X.K Wout D l) := by
    rintro _ t ⟨a, B, sI, pins', σ', H', cls, d, rfl, J', nb, up, sky, na, os, ag, w⟩
    have J : Inv X pins σ' H' sI := J'.ofTry ok
    refine Sky.land Zc.steady frames hf (hs ▸ sky : Sky B (X.env :: X.outer) a (Zc cls d) X.env.locals t.heap) fun h3 fl up3 => ?_
    have J3 : Inv X pins σ' H' { t with heap := h3 } := J.landed nb fl.1 (up.trans up3) os ag
    obtain ⟨oe, vs, eo, zo, do_⟩ := fl.there
    have nbase : X.base.get? a = none := by
      cases q : X.base.get? a with
      | none => rfl
      | some ob =>
        have q1 := J'.bk a ob q
        have q2 : a ∉ frs X.stack := fun hm => by
          have z := (J'.stack.mem hm).1
          rw [show (X.tr (X.pn ++ pins) meets).base = X.base from rfl, q] at z
          cases z
        have q3 := nb a ob q1 q2
        rw [fl.2.1] at q3
        cases q3
    have away : a ∉ frs (X.env :: X.outer) := fun hm => by
      obtain ⟨_, o, e, nf⟩ := fl.2.2.1.mem hm
      rw [eo] at e
      cases e
      exact nf _ do_
    have nL : a ≠ X.env.locals := fun z => away (List.mem_filterMap.mpr ⟨X.env, List.mem_cons_self, hf.trans (congrArg some z.symm)⟩)
    have nF : a ∉ X.fs := fun hm => by
      obtain ⟨e, he, q⟩ := List.mem_filterMap.mp hm
      exact away (List.mem_filterMap.mpr ⟨e, List.mem_cons_of_mem _ he, q⟩)
    have S3 := J3.suite eo do_ na nL nF
    have isA : PySem.W.Looks (model X.prog X.w) h3 (typeOf (.ref a)) cls := fun A Q E s k q => wpAny_typeOf_ref (k _ _ eo) (zo.1.symm ▸ q)
    -- a clause's class is looked up
    have look : ∀ {x : Str} {c : Value} {np : Pos} {Q E : Value → Shared → Prop}, Names X x c → Q c { t with heap := h3 } → wpAny (model X.prog X.w) (X.A.mark (some (.ref a))) (eval (.Name x np) X.env) Q E { t with heap := h3 } := by
      rintro x c np Q E ⟨gx, nx, mx | ⟨mx, vx, ex⟩⟩ q
      · exact ld_glob (X := X.suite a ((a, oe) :: (X.pn ++ pins))) S3 gx mx q nx
      · exact ld_blt (X := X.suite a ((a, oe) :: (X.pn ++ pins))) S3 gx mx vx q ex nx
    have go : ∀ {hs' : List ExceptHandler} {l' : List Clause}, MixOk X hs' l' → wMix X.K Wout D l' cls d σ' H' → wpAny (model X.prog X.w) X.A (handleBy (.ref a) X.env hs') (SP X pins D) X.xe { t with heap := h3 } := by
      intro hs' l' m
      induction m with
      | nil =>
        intro w
        have flight := fl
        obtain ⟨_, _, _, oe2, vs2, T, _, _, e2, _, d2, i1, _⟩ := flight
        have out : wpAny (model X.prog X.w) X.A (setFlight (.ref a) X.env.frame) (fun _ s4 => wpAny (model X.prog X.w) X.A (throw (.ref a) : Sem Flow) (SP X pins D) X.xe s4) X.xe { t with heap := h3 } := by
          rw [hf]
          exact HandSPX.setFlight_upZ fl fun h4 held up4 => wpAny_throw (tk _ _ ⟨a, B, sI, pins, σ', H', cls, d, rfl, J, nb, (up.trans up3).trans up4, .inr (.inr (hs.symm ▸ held)), na, os, ag, w⟩)
        refine wpAny_handleBy_nil ?_
        unfold PySem.passOn
        refine wpAny_bind (wpAny_field e2 d2 i1 ?_)
        rw [if_neg (by simp : ¬ ((Value.ref T == Value.none) = true))]
        first
          | exact wpAny_bind out
          | exact wpAny_bind (wpAny_pure (wpAny_bind out))
      | plain hc su r ih =>
        rintro ⟨b, hb1, yes, no⟩
        refine wpAny_handleBy_cons (codeAny_handlers_test (look hc ((PySem.W.exm_one (M := model X.prog X.w) J3.kIn isA hb1).here ?_))) (fun q => nomatch q)
        match b, hb1, yes, no with
        | false, _, _, no => exact ih (no rfl)
        | true, _, yes, _ =>
          refine codeAny_handlers_suite (HandSPX.lands_againZ fl fun h4 fl4 up4 => ?_)
          have J4 : Inv X pins σ' H' { t with heap := h4 } := J.landed nb fl4.1 ((up.trans up3).trans up4) os ag
          obtain ⟨oe4, vs4, e4, z4, d4⟩ := fl4.there
          refine wpAny_mono ((su a oe4 cls d (X.pn ++ pins) z4 ⟨_, d4⟩ nbase).run [] _ _ H' _ (J4.suite e4 d4 na nL nF) (yes rfl a na)) (fun f s6 q => ?_) (fun _ _ z => z.elim)
          match f, q with
          | .next, ⟨σ6, H6, S6, q6⟩ => exact ⟨_, _, S6.unsuite ok, q6⟩
          | .brk, ⟨σ6, H6, S6, q6⟩ => exact ⟨_, _, S6.unsuite ok, q6⟩
          | .cont, ⟨σ6, H6, S6, q6⟩ => exact ⟨_, _, S6.unsuite ok, q6⟩
          | .ret u, ⟨v6, σ6, H6, S6, r6, q6⟩ => exact ⟨_, _, _, S6.unsuite ok, r6, q6⟩
      | @named x n i c ts b0 bs np hp hds2 l2 hc hN hi hl su r ih =>
        rintro ⟨b, hb1, yes, no⟩
        refine wpAny_handleBy_cons (codeAny_handlers_test (look hc ((PySem.W.exm_one (M := model X.prog X.w) J3.kIn isA hb1).here ?_))) (fun q => nomatch q)
        match b, hb1, yes, no with
        | false, _, _, no => exact ih (no rfl)
        | true, _, yes, _ =>
          refine codeAny_handlers_suite_as (HandSPX.lands_againZ fl fun h4 fl4 up4 => ?_)
          have J4 : Inv X pins σ' H' { t with heap := h4 } := J.landed nb fl4.1 ((up.trans up3).trans up4) os ag
          obtain ⟨oe4, vs4, e4, z4, d4⟩ := fl4.there
          refine store_ok (X := X.suite a ((a, oe4) :: (X.pn ++ pins))) (v := .ref a) (J4.suite e4 d4 na nL nF) hN hi (.inl hl) rfl (fun s5 S5 => ?_) (.inr hl)
          refine wpAny_mono ((su a oe4 cls d (X.pn ++ pins) z4 ⟨_, d4⟩ nbase).run [] s5 _ H' _ S5 (yes rfl a na (by rw [J.len]; exact (List.getElem?_eq_some_iff.mp hi).1))) (fun f s6 q => ?_) (fun _ _ z => z.elim)
          have fin : ∀ {σ6 : L2.St} {H6 : Hp} {Q : Shared → Prop}, Inv (X.suite a ((a, oe4) :: (X.pn ++ pins))) [] σ6 H6 s6 → (∀ s7, Inv X pins (σ6.set i none) H6 s7 → Q s7) →
              wpAny (model X.prog X.w) X.A (do bindName X.env n .none; unbindBehindTheSuite X.env n hp) (fun _ s7 => Q s7) X.xe s6 := fun {σ6 H6 Q} S6 k => gone_ok (S6.unsuite ok) hN hi hl k
          match f, q with
          | .next, ⟨σ6, H6, S6, q6⟩ => exact fin S6 fun s7 J7 => ⟨_, _, J7, q6⟩
          | .brk, ⟨σ6, H6, S6, q6⟩ => exact fin S6 fun s7 J7 => ⟨_, _, J7, q6⟩
          | .cont, ⟨σ6, H6, S6, q6⟩ => exact fin S6 fun s7 J7 => ⟨_, _, J7, q6⟩
          | .ret u, ⟨v6, σ6, H6, S6, r6, q6⟩ => exact fin S6 fun s7 J7 => ⟨_, _, _, J7, r6, q6⟩
    exact go hh w
  refine wpAny_Try_except (wpAny_mono ((hb (wMix X.K Wout D l) (X.pn ++ pins) meets catches PassesOwn.looking).run [] s σ H D (I.toTry _) h) (fun f s1 q => ?_) (fun e s1 z => z))
  match f, q with
  | .next, ⟨σ1, H1, J1, q1⟩ => exact wpAny_execs_nil ⟨σ1, H1, J1.ofTry ok, q1⟩
  | .brk, ⟨σ1, H1, J1, q1⟩ => exact ⟨σ1, H1, J1.ofTry ok, q1⟩
  | .cont, ⟨σ1, H1, J1, q1⟩ => exact ⟨σ1, H1, J1.ofTry ok, q1⟩
  | .ret u, ⟨v, σ1, H1, J1, r, q1⟩ => exact ⟨v, σ1, H1, J1.ofTry ok, r, q1⟩
end
end G

set_option Elab.async false
set_option linter.all false
set_option maxRecDepth 100000
set_option maxHeartbeats 4000000
namespace G
open PySem PySem.Spec PyProof.Rows L2
/-! ## Promises with a switch: gq = true asks for empty guards (texts of containers), gq = false asks nothing (so a lambda may call) -/
structure FnQ (gq : Bool) (P : Program) (w : World) (K : PySem.W.Frag) (mg : Str → Option Value) (base : Heap)
    (CX : CXT) (k : Nat) (f : Addr) (fd : FuncData) (ps : List Str) (sp : Sp) : Prop where
  len : ∀ xs H Q E, sp xs H Q E → xs.length = ps.length
  go : ∀ (A : Around) (out : List Env) (s : Shared) (H : Hp) (args : Args) (us : List Value) (xs : List V) (Q : VK) (E : XK),
    (gq = true → A.guards = some []) → Room k A → Env0 P w K mg base A out s H → BindsTo s fd args (ps.zip us) → Vals xs us → sp xs H Q E →
    codeAny (model P w) A (.call (.ref f) args) (CR CX out P w H s Q E) s
theorem FnQ.g {gq P w K mg base CX k f fd ps sp} (F : FnQ gq P w K mg base CX k f fd ps sp) : FnG P w K mg base CX k f fd ps sp :=
  ⟨F.len, fun A out s H args us xs Q E hg => F.go A out s H args us xs Q E fun _ => hg⟩
theorem FnQ.ok {P w K mg base CX k f fd ps sp} (F : FnQ false P w K mg base CX k f fd ps sp) : FnOk P w K mg base CX k f fd ps sp :=
  ⟨F.len, fun A out s H args us xs Q E => F.go A out s H args us xs Q E fun z => Bool.noConfusion z⟩
theorem FnQ.mono {gq P w K mg base CX j k f fd ps sp} (F : FnQ gq P w K mg base CX j f fd ps sp) (h : j ≤ k) : FnQ gq P w K mg base CX k f fd ps sp :=
  ⟨F.len, fun A out s H args us xs Q E hg hr => F.go A out s H args us xs Q E hg (hr.mono h)⟩
section
variable {gq : Bool} {X : Cx} {CX : CXT} {k j : Nat} {f : Addr} {fd : FuncData} {ps : List Str} {sp : Sp} {E : L2.St → XK} {x : Str} {p pos : Pos} {e : Expr} {es : List Expr} {t : TA}
theorem runQ {pins : List (Addr × Obj)} {σ : L2.St} {H : Hp} {s : Shared} {Q : VK} {us : List Value} {xs : List V}
    (F : FnQ gq X.prog X.w X.K X.mg X.base CX k f fd ps sp) (hgd : gq = true → X.A.guards = some []) (hr : Room k X.A) (hb : Binds X.K fd ps []) (hx : PassesAt CX X σ (E σ))
    (I : Inv X pins σ H s) (r : Vals xs us) (h : sp xs H Q (E σ)) : wpAny (model X.prog X.w) X.A (call (.ref f) us) (EP X pins σ Q) X.xe s := by
  have sz : us.length = ps.length := r.length.symm.trans (F.len _ _ _ _ h)
  have body := F.go X.A X.stack s H ⟨us, []⟩ us xs Q (E σ) hgd hr I.env0 (by have := hb s us I.kIn (by rw [List.append_nil]; exact sz); rwa [List.append_nil] at this) r h
  refine wpAny_call (codeAny_mono body fun res t hq => ?_)
  match res, hq with
  | .error e, hq => exact hx pins H s e t I hq
  | .ok (.ret u), hq => exact I.after hq
  | .ok .next, hq => exact hq.elim
  | .ok .brk, hq => exact hq.elim
  | .ok .cont, hq => exact hq.elim
theorem pe_q (F : FnQ gq X.prog X.w X.K X.mg X.base CX k f fd ps sp)
    (hgd : gq = true → X.A.guards = some []) (hr : Room k X.A) (hg : Gl X x) (hm : X.mg x = some (.ref f)) (hk : PySem.W.keepIn X.K (.ref f) = true)
    (hb : Binds X.K fd ps []) (hx : ∀ σ, PassesAt CX X σ (E σ)) (ha : PA X (e :: es) t)
    (hdb : (x == ("__debug__" : Str)) = false := by decide)
    (he : starEach (e :: es) X.env = (false, eval e X.env) :: starEach es X.env := by rfl)
    (hpl : (backTo pos (starEach es X.env)).any (·.1) = false := by rfl) :
    PE X (.Call (.Name x p) (e :: es) [] pos) (tCallS sp E t) :=
  ⟨fun pins s σ H Q I h => wpAny_Call_Name_kw (ld_glob I hg hm
    (PySem.W.callWith_K (h₀ := X.base) I.ok.mod.kin hk
      (thn (ha.run pos pins s σ H _ I h) fun us s1 ⟨xs, H1, I1, r, q⟩ => ⟨I1.kIn, runQ F hgd hr hb (hx σ) I1 r q⟩) he hpl) hdb)⟩
end
/-- a def that raises nothing -/
structure CalQ (gq : Bool) (P : Program) (w : World) (K : PySem.W.Frag) (mg : Str → Option Value) (base : Heap) (k : Nat) (x : Str) (ps : List Str) (sp : Sp) : Prop where
  ex : ∃ f fd, FnQ gq P w K mg base CX0 k f fd ps sp ∧ mg x = some (.ref f) ∧ PySem.W.keepIn K (.ref f) = true ∧ Binds K fd ps []
/-- a def that may raise -/
structure CalXQ (gq : Bool) (P : Program) (w : World) (K : PySem.W.Frag) (mg : Str → Option Value) (base : Heap) (k : Nat) (x : Str) (ps : List Str) (sp : Sp) : Prop where
  ex : ∃ f fd, FnQ gq P w K mg base (L2.CX P w) k f fd ps sp ∧ mg x = some (.ref f) ∧ PySem.W.keepIn K (.ref f) = true ∧ Binds K fd ps []
theorem CalQ.g {gq P w K mg base k x ps sp} (c : CalQ gq P w K mg base k x ps sp) : CalG P w K mg base k x ps sp :=
  let ⟨f, fd, F, r⟩ := c.ex
  ⟨f, fd, F.g, r⟩
theorem CalXQ.x {gq P w K mg base k x ps sp} (c : CalXQ gq P w K mg base k x ps sp) : CalX P w K mg base k x ps sp :=
  let ⟨f, fd, F, r⟩ := c.ex
  ⟨f, fd, F.g, r⟩
theorem okQ {gq : Bool} {CX : CXT} {P : Program} {w : World} {K : PySem.W.Frag} {mg : Str → Option Value} {base : Heap} {x qual : Str} {st : Stmt} {f : Addr} {fd : FuncData}
    {N ps : List Str} {k : Nat} {sp : Sp} (F : Fun K x qual st f fd) (S : FnScope N ps (defScope st)) (len : ∀ xs H Q E, sp xs H Q E → xs.length = ps.length)
    (hbody : ∀ (cdv : Value) (A : Around) (out : List Env) (s : Shared) (H : Hp) (xs : List V) (Q : VK) (E : XK), (gq = true → A.guards = some []) →
      Room k (A.deeper (envOfC qual (defScope st) s.heap.objs.size f cdv)) → sp xs H Q E →
      ∃ t, PSs (cxOf CX P w K mg base N qual (defScope st) f cdv A out s H E) (defBody st) t ∧
        t { nx := fun _ H' => Q .non H', rt := Q } (start N xs) H) :
    FnQ gq P w K mg base CX (k + 1) f fd ps sp := by
  obtain ⟨oc, od, kV, doc, pm, an, cdv, ct, osl, rfl, lk, hcd⟩ := F.ex
  constructor
  · exact len
  intro A out s H args us xs Q E gA hr e0 hb r hsp
  have old : ∀ b o, base.get? b = some o → s.heap.get? b = some o := fun b o q => (e0.bs b o q).1
  have KX : K.In s.heap := e0.mod.kin.keeps old
  have lim : s.heap.NoLimit := e0.mod.nolimit.keeps old
  refine codeAny_call_function hr.depth (KX _ _ lk) rfl S.co S.gen rfl (PySem.W.codeRec_of KX hcd) (hb _ _ _ _ ?_)
  refine wpAny_newFunctionEnv_cells S.kind (fun y hy => ?_) fun env he s1 x1 => ?_
  · have q := S.par y.1 (List.of_mem_zip (a := y.1) (b := y.2) hy).1
    exact q.elim .inl fun q => .inr ⟨q, PySem.W.cellsFrom_some _ _ _ (.inl q)⟩
  · subst he
    refine ⟨lim.keeps x1.toInCall.keep, codeAny_func ?_⟩
    obtain ⟨t, ht, hq⟩ := hbody cdv A out s H xs Q E gA (hr.deeper _) hsp
    have I := inv_start (CX := CX) (P := P) (w := w) (K := K) (mg := mg) (base := base) (N := N) (ps := ps) (E := E) S hr.hd e0 (len _ _ _ _ hsp) r x1
    refine wpAny_mono (ht.run [] s1 (start N xs) H _ I hq) (fun fl s2 hs => ?_) fun _ _ z => z
    match fl, hs with
    | .ret u, ⟨v, σ', H', J, rv, q⟩ => exact ⟨v, H', J.os, J.bare, J.base, J.hok, rv, q⟩
    | .next, ⟨σ', H', J, q⟩ => exact ⟨V.non, H', J.os, J.bare, J.base, J.hok, rfl, q⟩
    | .brk, ⟨_, _, _, q⟩ => exact q.elim
    | .cont, ⟨_, _, _, q⟩ => exact q.elim
theorem calOkQ {gq : Bool} {P : Program} {w : World} {K : PySem.W.Frag} {mg : Str → Option Value} {base : Heap} {x : Str} {st : Stmt} {N ps : List Str} {k : Nat} {sp : Sp}
    (D : DefAt K mg x st ps) (S : FnScope N ps (defScope st)) (len : ∀ xs H Q E, sp xs H Q E → xs.length = ps.length)
    (hbody : ∀ (f : Addr) (cdv : Value) (A : Around) (out : List Env) (s : Shared) (H : Hp) (xs : List V) (Q : VK) (E : XK), (gq = true → A.guards = some []) →
      Room k (A.deeper (envOfC x (defScope st) s.heap.objs.size f cdv)) → sp xs H Q E →
      ∃ t, PSs (cxOf CX0 P w K mg base N x (defScope st) f cdv A out s H E).nox (defBody st) t ∧
        t { nx := fun _ H' => Q .non H', rt := Q } (start N xs) H) : CalQ gq P w K mg base (k + 1) x ps sp := by
  obtain ⟨f, fd, F, m, b⟩ := D.ex
  refine ⟨f, fd, okQ F S len (fun cdv A out s H xs Q E g r h => ?_), m, F.kp, Binds.all b⟩
  obtain ⟨t, ht, q⟩ := hbody f cdv A out s H xs Q E g r h
  exact ⟨t, ht.nox, q⟩
theorem calOkXQ {gq : Bool} {P : Program} {w : World} {K : PySem.W.Frag} {mg : Str → Option Value} {base : Heap} {x : Str} {st : Stmt} {N ps : List Str} {k : Nat} {sp : Sp}
    (D : DefAt K mg x st ps) (S : FnScope N ps (defScope st)) (len : ∀ xs H Q E, sp xs H Q E → xs.length = ps.length)
    (hbody : ∀ (f : Addr) (cdv : Value) (A : Around) (out : List Env) (s : Shared) (H : Hp) (xs : List V) (Q : VK) (E : XK), (gq = true → A.guards = some []) →
      Room k (A.deeper (envOfC x (defScope st) s.heap.objs.size f cdv)) → sp xs H Q E →
      ∃ t, PSs (cxOf (L2.CX P w) P w K mg base N x (defScope st) f cdv A out s H E) (defBody st) t ∧
        t { nx := fun _ H' => Q .non H', rt := Q } (start N xs) H) : CalXQ gq P w K mg base (k + 1) x ps sp := by
  obtain ⟨f, fd, F, m, b⟩ := D.ex
  exact ⟨f, fd, okQ F S len (hbody f), m, F.kp, Binds.all b⟩
section
variable {gq : Bool} {X : Cx} {k j : Nat} {ps : List Str} {sp : Sp} {x : Str} {p pos : Pos} {e : Expr} {es : List Expr} {t : TA}
theorem pe_kq (c : CalQ gq X.prog X.w X.K X.mg X.base k x ps sp) (hgd : gq = true → X.A.guards = some []) (hr : Room j X.A) (hk : k ≤ j) (hg : Gl X x) (ha : PA X (e :: es) t)
    (hdb : (x == ("__debug__" : Str)) = false := by decide)
    (he : starEach (e :: es) X.env = (false, eval e X.env) :: starEach es X.env := by rfl)
    (hpl : (backTo pos (starEach es X.env)).any (·.1) = false := by rfl) :
    PE X (.Call (.Name x p) (e :: es) [] pos) (tCallS sp (fun _ => E0) t) := by
  obtain ⟨f, fd, F, m, kp, b⟩ := c.ex
  exact pe_q F hgd (hr.mono hk) hg m kp b (fun σ pins H s e s' I c => c.elim) ha hdb he hpl
theorem pe_kxq {W : WX} (c : CalXQ gq X.prog X.w X.K X.mg X.base k x ps sp) (tk : Takes X W) (hgd : gq = true → X.A.guards = some []) (hr : Room j X.A) (hk : k ≤ j) (hg : Gl X x) (ha : PA X (e :: es) t)
    (hdb : (x == ("__debug__" : Str)) = false := by decide)
    (he : starEach (e :: es) X.env = (false, eval e X.env) :: starEach es X.env := by rfl)
    (hpl : (backTo pos (starEach es X.env)).any (·.1) = false := by rfl) :
    PE X (.Call (.Name x p) (e :: es) [] pos) (tCallS sp (WE W) t) := by
  obtain ⟨f, fd, F, m, kp, b⟩ := c.ex
  exact pe_q F hgd (hr.mono hk) hg m kp b (fun σ => passAt tk σ) ha hdb he hpl
end
end G

set_option Elab.async false
set_option linter.all false
set_option maxRecDepth 100000
set_option maxHeartbeats 4000000
namespace G
open PySem PySem.Spec PyProof.Rows L2
/-! ## all but the tables of code objects stays -/
mutual
theorem Dx.ext {H H' : Hp} (s : LamX.ExtN H H') : ∀ {x : V} {d : PyData}, Dx H x d → Dx H' x d
  | _, _, .non => .non
  | _, _, .bl b => .bl b
  | _, _, .int i => .int i
  | _, _, .str x => .str x
  | _, _, .lst h a => .lst (s _ _ h fun _ z => by cases z) (DxAll.ext s a)
  | _, _, .tup h a => .tup (s _ _ h fun _ z => by cases z) (DxAll.ext s a)
  | _, _, .dct h a => .dct (s _ _ h fun _ z => by cases z) (DxKv.ext s a)
theorem DxAll.ext {H H' : Hp} (s : LamX.ExtN H H') : ∀ {xs : List V} {ds : List PyData}, DxAll H xs ds → DxAll H' xs ds
  | _, _, .nil => .nil
  | _, _, .cons a b => .cons (Dx.ext s a) (DxAll.ext s b)
theorem DxKv.ext {H H' : Hp} (s : LamX.ExtN H H') : ∀ {xs : List (Key × V)} {ds : List (PyData × PyData)}, DxKv H xs ds → DxKv H' xs ds
  | _, _, .nil => .nil
  | _, _, .cons a b => .cons (Dx.ext s a) (DxKv.ext s b)
end
theorem ext_of_same {H H' : Hp} (s : Same H H') : LamX.ExtN H H' := fun b o h _ => s b o h
theorem ext_hide {d : Addr} {H H' : Hp} (e : LamX.ExtN H H') : LamX.ExtN (hide d H) (hide d H') := fun b o h n => by
  by_cases q : b = d
  · subst q
    rw [hide_at] at h
    cases h
  · rw [hide_ne q] at h ⊢
    exact e b o h n
theorem dice_ext {d : Addr} {H H' : Hp} (dd : DiceAt H d) (e : LamX.ExtN H H') : DiceAt H' d :=
  let ⟨l, s, c, h⟩ := dd
  ⟨l, s, c, e _ _ h fun _ z => by cases z⟩
theorem tabs_mv {T : List (Addr × Str)} {d : Addr} {H H' : Hp} (t : LamX.Tabs T H) (dd : DiceAt H d) (m : Mv d H H') : LamX.Tabs T H' := fun p hp => by
  obtain ⟨l, s, c, hd⟩ := dd
  obtain ⟨ps, h1, h2, h3⟩ := t p hp
  have ne1 : p.1 ≠ d := fun e => by
    rw [e, hd] at h1
    cases h1
  refine ⟨ps, m.get ne1 h1, h2, fun pos cv hc => ?_⟩
  obtain ⟨c0, e1, e2⟩ := h3 pos cv hc
  refine ⟨c0, e1, m.get (fun e => ?_) e2⟩
  rw [e, hd] at e2
  unfold LamX.CodeO at e2
  cases e2
theorem tabs_put {T : List (Addr × Str)} {p : Addr} {H : Hp} {xs : List V} {o : HO} (t : LamX.Tabs T H) (hp : H p = some (.lst xs)) : LamX.Tabs T (upd H p o) := fun q hq => by
  obtain ⟨ps, h1, h2, h3⟩ := t q hq
  have ne1 : q.1 ≠ p := fun e => by
    rw [e, hp] at h1
    cases h1
  refine ⟨ps, by rw [upd_ne ne1]; exact h1, h2, fun pos cv hc => ?_⟩
  obtain ⟨c0, e1, e2⟩ := h3 pos cv hc
  refine ⟨c0, e1, ?_⟩
  rw [upd_ne (fun e => ?_)]
  · exact e2
  · rw [e, hp] at e2
    unfold LamX.CodeO at e2
    cases e2
structure MvT (T : List (Addr × Str)) (d : Addr) (H H' : Hp) : Prop where
  ext : LamX.ExtN (hide d H) (hide d H')
  dice : DiceAt H' d
  tabs : LamX.Tabs T H'
theorem MvT.refl {T : List (Addr × Str)} {d : Addr} {H : Hp} (dd : DiceAt H d) (t : LamX.Tabs T H) : MvT T d H H := ⟨LamX.ExtN.refl _, dd, t⟩
theorem MvT.trans {T : List (Addr × Str)} {d : Addr} {H H1 H2 : Hp} (a : MvT T d H H1) (b : MvT T d H1 H2) : MvT T d H H2 := ⟨a.ext.trans b.ext, b.dice, b.tabs⟩
theorem MvT.mv {T : List (Addr × Str)} {d : Addr} {H H1 H2 : Hp} (a : MvT T d H H1) (b : Mv d H1 H2) : MvT T d H H2 := ⟨a.ext.trans (ext_of_same b.same), b.dice, tabs_mv a.tabs a.dice b⟩
theorem MvT.same {T : List (Addr × Str)} {d : Addr} {H H1 H2 : Hp} (a : MvT T d H H1) (b : Same H1 H2) : MvT T d H H2 := a.mv ((Mv.refl a.dice).ofSame b)
theorem MvT.lam {T : List (Addr × Str)} {d : Addr} {H H1 H2 : Hp} (a : MvT T d H H1) (e : LamX.ExtN H1 H2) (t : LamX.Tabs T H2) : MvT T d H H2 := ⟨a.ext.trans (ext_hide e), dice_ext a.dice e, t⟩
theorem MvT.dx {T : List (Addr × Str)} {d : Addr} {H H' : Hp} {x : V} {dat : PyData} (m : MvT T d H H') (h : Dx (hide d H) x dat) : Dx (hide d H') x dat := Dx.ext m.ext h
theorem MvT.new {T : List (Addr × Str)} {d p : Addr} {H H' : Hp} {o : HO} (a : MvT T d H H') (n : H' p = none) : MvT T d H (upd H' p o) := a.same (same_new n)
theorem MvT.put {T : List (Addr × Str)} {d p : Addr} {H H' : Hp} {xs : List V} {o : HO} (a : MvT T d H H') (n : H p = none) (ne : p ≠ d) (hp : H' p = some (.lst xs)) : MvT T d H (upd H' p o) := by
  refine ⟨fun b u e k => ?_, ?_, tabs_put a.tabs hp⟩
  · have nb : b ≠ p := fun q => by
      rw [q, hide_ne ne, n] at e
      cases e
    have q := a.ext b u e k
    by_cases h : b = d
    · subst h
      rw [hide_at] at q
      cases q
    · rw [hide_ne h] at q ⊢
      rw [upd_ne nb]
      exact q
  · obtain ⟨l, s, c, q⟩ := a.dice
    exact ⟨l, s, c, by rw [upd_ne ne.symm]; exact q⟩
/-- what is a list, kept through the making of a lambda -/
theorem ext_lst {H H' : Hp} {p : Addr} {xs : List V} (e : LamX.ExtN H H') (h : H p = some (.lst xs)) : H' p = some (.lst xs) := e _ _ h fun _ z => by cases z
/-! ## the empty dict: its text, and that no number is equal to it -/
def ShwX (d : PyData) : Prop := Shw d ∨ d = .dict []
section
variable {X : Cx}
theorem dx_empty {pins : List (Addr × Obj)} {σ : L2.St} {H : Hp} {s : Shared} {x : V} {u : Value} (I : Inv X pins σ H s) (h : Dx H x (.dict [])) (r : RelV x u) :
    ∃ a o n, u = .ref a ∧ (a == sysModules) = false ∧ s.heap.get? a = some o ∧ o.cls = .type "dict" ∧ o.data = .dict #[] n := by
  cases h with
  | dct ha hk =>
    cases hk
    obtain ⟨_, hs, vs, kv, D⟩ := I.hok _ _ ha
    cases (show u = Value.ref _ from r)
    have ev : vs = [] := by
      cases kv
      rfl
    subst ev
    obtain ⟨o, es, n, ho, hx, hd, _, hp, _⟩ := D
    refine ⟨_, o, n, rfl, hs, ho, hx.1, ?_⟩
    rw [hd]
    have e2 : es.toList = [] := by
      cases q : es.toList with
      | nil => rfl
      | cons z r =>
        rw [q] at hp
        cases hp
    have : es = #[] := by
      cases es
      simpa using e2
    rw [this]
def rReprX : List V → Hp → VK → Prop := fun xs H Q => ∃ (x : V) (d : PyData), xs = [x] ∧ Dx H x d ∧ ShwX d ∧ Q (.str d.shown) H
theorem call_reprX (hgd : X.A.guards = some []) (hu : X.A.units + 64 < cLine) : CallR X (.builtin "repr") rReprX := by
  intro pins s σ H xs us Q I r h
  obtain ⟨x, d, rfl, hx, hw, q⟩ := h
  rcases hw with hw | rfl
  · exact call_repr hgd hu pins s σ H _ us Q I r ⟨x, d, rfl, hx.dp hw.noDict, hw, q⟩
  · obtain ⟨u, rfl, ru⟩ := vals1 r
    obtain ⟨a, o, n, rfl, hs, ho, hc, hd⟩ := dx_empty I hx ru
    have rd : Reads s.heap (.ref a) (.dict []) (a :: [] ++ []) := .dict ho hc hd .nil .nil
    refine repr_of_reads' rd (by simp [PyData.showable, PyData.showableKv]) (fun _ z => ?_) hgd (by simp [PyData.depth, PyData.depthKv]; omega) (fun _ _ e => e) (fun h' t tk kp => ⟨.str _, H, I.kept kp, ⟨t, rfl⟩, q⟩) (by decide +kernel)
    simp at z
    rw [z] at hs
    simp at hs
end
end G
namespace PySem.SeqAt
open MeetsSeq
open AutoSeq1 (wpAny_loadPart')
theorem int_eq_declines_dict (b : Int) (u : Tok) (l : Addr) (es : Array DictEntry) (n : Nat) (dd : Option Addr) (sl : Array (Option Value)) :
    Meets (Builtin.«int.__eq__» ⟨[.int b u, .ref l], []⟩) (fun _ R s => s.heap.get? l = some { cls := .type "dict", dict := dd, data := .dict es n, slots := sl } ∧ R (.ok (.ret .notImplemented)) s) :=
  .of_wp fun prog w A R s h => by obtain ⟨hp, g, d, tk, os⟩ := s; obtain ⟨hl, h⟩ := h; wp_walk using wpAny_loadPart' hl, wpAny_load hl; exact ⟨_, rfl, h⟩
theorem dict_eq_declines_int (l : Addr) (es : Array DictEntry) (n : Nat) (dd : Option Addr) (sl : Array (Option Value)) (b : Int) (u : Tok) :
    Meets (Builtin.«dict.__eq__» ⟨[.ref l, .int b u], []⟩) (fun _ R s => s.heap.get? l = some { cls := .type "dict", dict := dd, data := .dict es n, slots := sl } ∧ R (.ok (.ret .notImplemented)) s) :=
  .of_wp fun prog w A R s h => by obtain ⟨hp, g, d, tk, os⟩ := s; obtain ⟨hl, h⟩ := h; have f1 := F.sub_int_dict; wp_walk using wpAny_loadPart' hl; exact ⟨_, rfl, h⟩
section
variable {A : Around} {s : Shared}
theorem RcAt.int_dict {l : Addr} {o : Obj} {es : Array DictEntry} {n : Nat} (b : Int) (u : Tok) (ho : s.heap.get? l = some o) (hc : o.cls = .type "dict") (hd : o.data = .dict es n) (hu : A.units < cLine) : RcAt A s (.int b u) (.ref l) false := fun prog w E Q h => by
  obtain ⟨cls, dd, data, sl⟩ := o
  simp only at hc hd
  subst hc hd
  exact rc_eq_decline_or (k := false) (typeIs_int s b u) ⟨_, ho, rfl⟩ (by decide) F.sub_dict_int F.slot_int_eq F.slot_dict_eq_refl
    (fun _ hq => call_meets F.slot_int_eq (typeIs_int s b u) F.entry_int_eq (F.args_int_eq_2 _ _) (int_eq_declines_dict b u l es n dd sl) ⟨ho, hq⟩)
    (fun _ hq => call_meets F.slot_dict_eq_refl ⟨_, ho, rfl⟩ F.entry_dict_eq (F.args_dict_eq_2 _ _) (dict_eq_declines_int l es n dd sl b u) ⟨ho, hq⟩)
    (fun _ hq => wpAny_of_eq (rfl : isSame (.int b u) (.ref l) = pure false) hq) (.inr hu) h
theorem EqAt.int_dict {l : Addr} {o : Obj} {es : Array DictEntry} {n : Nat} (b : Int) (u : Tok) (ho : s.heap.get? l = some o) (hc : o.cls = .type "dict") (hd : o.data = .dict es n) (hu : A.units < cLine) : EqAt A s (.int b u) (.ref l) false := fun prog w E Q h => by
  unfold eqBool
  refine wpAny_holding ?_
  refine wpAny_ite_split (fun hab => absurd (eq_of_beq hab) nofun) (fun _ => ?_)
  exact wpAny_bind (RcAt.int_dict b u ho hc hd hu prog w E _ (wpAny_truthy_bool h))
end
end PySem.SeqAt
namespace G
open PySem PySem.Spec PyProof.Rows L2
section
variable {X : Cx}
/-- x in (i, j) for data of any kind, the empty dict among them -/
def rInTwo (K : PySem.W.Frag) : R2 := fun x y H Q => ∃ (a : Addr) (i j : Int) (d : PyData), y = .ref a ∧ H a = some (.tup [.int i, .int j]) ∧ Dx H x d ∧ ((d.hasDict = false ∧ SeqAt.shaped d = true) ∨ d = .dict []) ∧
  Q (.bl (([.int i, .int j] : List PyData).any fun z => PyData.eqv z d)) H
theorem op_inTwo (hu : X.A.units + 65 < cLine) : OpR X (compareOp .In) (rInTwo X.K) := by
  intro pins s σ H x y v u Q I rx ry h
  obtain ⟨a, i, j, d, rfl, ha, hx, hd, q⟩ := h
  have hT : Dp X.K H (.ref a) (.tuple [.int i, .int j]) := .tup (SqT.of ha) (.cons (.int i) (.cons (.int j) .nil))
  rcases hd with ⟨nd, sd⟩ | rfl
  · obtain ⟨as, r1⟩ := Dp.reads I d x v (hx.dp nd) rx
    obtain ⟨bs, r2⟩ := Dp.reads I _ _ u hT ry
    refine SeqAt.in_tuple_reads r2 r1 (by simp [PyData.canLayAll0, PyData.canLay0]) (SeqAt.canLay_of_shaped sd) ?_ ⟨.bl _, H, I, rfl, q⟩
    simp only [PyData.depthAll, PyData.depth]
    omega
  · obtain ⟨b, o, n, rfl, _, ho, hc, hdt⟩ := dx_empty I hx rx
    obtain ⟨as, r2⟩ := Dp.reads I _ _ u hT ry
    cases r2 with
    | tuple h1 h2 h3 h4 =>
      refine SeqAt.in_tupleAt (fun _ => false) ⟨_, h1, h2, _, h3⟩ (fun w hw => ?_) ⟨.bl _, H, I, rfl, ?_⟩
      · have hw' : w ∈ _ := (Array.mem_toList_iff ..).mpr hw
        have : ∃ k t, w = Value.int k t := by
          revert hw' h4
          generalize Array.toList _ = l
          intro h4 hw'
          cases h4 with
          | cons a1 r1 =>
            cases r1 with
            | cons a2 r2 =>
              cases r2
              cases a1
              cases a2
              rcases List.mem_cons.mp hw' with e | e
              · exact ⟨_, _, e⟩
              · rcases List.mem_cons.mp e with e | e
                · exact ⟨_, _, e⟩
                · cases e
        obtain ⟨k, t, rfl⟩ := this
        exact SeqAt.EqAt.int_dict k t ho hc hdt (by show X.A.units + 1 < cLine; omega)
      · have e1 : (([.int i, .int j] : List PyData).any fun z => PyData.eqv z (.dict [])) = false := by simp [PyData.eqv]
        rw [e1] at q
        rw [show Array.any _ (fun _ => false) = false by simp]
        exact q
end
/-! ## a def whose code object is known, for the lambdas in it -/
structure DefAtC (K : PySem.W.Frag) (mg : Str → Option Value) (x : Str) (st : Stmt) (ps : List Str) (c : Addr) : Prop where
  ex : ∃ (f : Addr) (oc : Value) (od an : Option Addr) (osl : Array (Option Value)) (kV doc pm ct : Value),
    K.lookup f = some ⟨oc, od, .func (PySem.W.fnOf x x (defArgs st) (defBody st) (defScope st) .none kV doc pm an (.ref c) ct), osl⟩ ∧ PySem.W.codeIn K (.ref c) x = true ∧ PySem.W.keepIn K (.ref f) = true ∧ mg x = some (.ref f) ∧
    ∀ us : List Value, us.length = ps.length → bindArgs (PySem.W.fnOf x x (defArgs st) (defBody st) (defScope st) .none kV doc pm an (.ref c) ct) ⟨us, []⟩ = pure (ps.zip us)
theorem defAtC {K : PySem.W.Frag} {h : Heap} {mg : Str → Option Value} {x : Str} {st : Stmt} {ps : List Str} {f c : Addr} {oc : Value} {od an : Option Addr} {osl : Array (Option Value)}
    {kV doc pm ct : Value} (KX : K.In h) (gl : h.Ns mainGlobals mg)
    (hb : ∀ us : List Value, us.length = ps.length → bindArgs (PySem.W.fnOf x x (defArgs st) (defBody st) (defScope st) .none kV doc pm an (.ref c) ct) ⟨us, []⟩ = pure (ps.zip us))
    (a : PySem.W.nsIn K mainGlobals x = some (some (.ref f)))
    (l : K.lookup f = some ⟨oc, od, .func (PySem.W.fnOf x x (defArgs st) (defBody st) (defScope st) .none kV doc pm an (.ref c) ct), osl⟩)
    (cd : PySem.W.codeIn K (.ref c) x = true) (k : PySem.W.keepIn K (.ref f) = true) : DefAtC K mg x st ps c :=
  ⟨f, oc, od, an, osl, kV, doc, pm, ct, l, cd, k, PySem.W.mg_of KX gl a, hb⟩
theorem okGC {P : Program} {w : World} {K : PySem.W.Frag} {mg : Str → Option Value} {base : Heap} {x qual : Str} {st : Stmt} {f c : Addr}
    {oc : Value} {od an : Option Addr} {osl : Array (Option Value)} {kV doc pm ct : Value}
    {N ps : List Str} {k : Nat} {sp : Sp} (lk : K.lookup f = some ⟨oc, od, .func (PySem.W.fnOf x qual (defArgs st) (defBody st) (defScope st) .none kV doc pm an (.ref c) ct), osl⟩) (hcd : PySem.W.codeIn K (.ref c) qual = true)
    (S : FnScope N ps (defScope st)) (len : ∀ xs H Q E, sp xs H Q E → xs.length = ps.length)
    (hbody : ∀ (A : Around) (out : List Env) (s : Shared) (H : Hp) (xs : List V) (Q : VK) (E : XK), A.guards = some [] →
      Room k (A.deeper (envOfC qual (defScope st) s.heap.objs.size f (.ref c))) → sp xs H Q E →
      ∃ t, PSs (cxOf CX0 P w K mg base N qual (defScope st) f (.ref c) A out s H E).nox (defBody st) t ∧
        t { nx := fun _ H' => Q .non H', rt := Q } (start N xs) H) :
    FnG P w K mg base CX0 (k + 1) f (PySem.W.fnOf x qual (defArgs st) (defBody st) (defScope st) .none kV doc pm an (.ref c) ct) ps sp := by
  constructor
  · exact len
  intro A out s H args us xs Q E gA hr e0 hb r hsp
  have old : ∀ b o, base.get? b = some o → s.heap.get? b = some o := fun b o q => (e0.bs b o q).1
  have KX : K.In s.heap := e0.mod.kin.keeps old
  have lim : s.heap.NoLimit := e0.mod.nolimit.keeps old
  refine codeAny_call_function hr.depth (KX _ _ lk) rfl S.co S.gen rfl (PySem.W.codeRec_of KX hcd) (hb _ _ _ _ ?_)
  refine wpAny_newFunctionEnv_cells S.kind (fun y hy => ?_) fun env he s1 x1 => ?_
  · have q := S.par y.1 (List.of_mem_zip (a := y.1) (b := y.2) hy).1
    exact q.elim .inl fun q => .inr ⟨q, PySem.W.cellsFrom_some _ _ _ (.inl q)⟩
  · subst he
    refine ⟨lim.keeps x1.toInCall.keep, codeAny_func ?_⟩
    obtain ⟨t, ht, hq⟩ := hbody A out s H xs Q E gA (hr.deeper _) hsp
    have I := inv_start (CX := CX0) (P := P) (w := w) (K := K) (mg := mg) (base := base) (N := N) (ps := ps) (E := E) S hr.hd e0 (len _ _ _ _ hsp) r x1
    refine wpAny_mono (ht.nox.run [] s1 (start N xs) H _ I hq) (fun fl s2 hs => ?_) fun _ _ z => z
    match fl, hs with
    | .ret u, ⟨v, σ', H', J, rv, q⟩ => exact ⟨v, H', J.os, J.bare, J.base, J.hok, rv, q⟩
    | .next, ⟨σ', H', J, q⟩ => exact ⟨V.non, H', J.os, J.bare, J.base, J.hok, rfl, q⟩
    | .brk, ⟨_, _, _, q⟩ => exact q.elim
    | .cont, ⟨_, _, _, q⟩ => exact q.elim
theorem calOkC {P : Program} {w : World} {K : PySem.W.Frag} {mg : Str → Option Value} {base : Heap} {x : Str} {st : Stmt} {N ps : List Str} {k : Nat} {sp : Sp} {c : Addr}
    (D : DefAtC K mg x st ps c) (S : FnScope N ps (defScope st)) (len : ∀ xs H Q E, sp xs H Q E → xs.length = ps.length)
    (hbody : ∀ (f : Addr) (A : Around) (out : List Env) (s : Shared) (H : Hp) (xs : List V) (Q : VK) (E : XK), A.guards = some [] →
      Room k (A.deeper (envOfC x (defScope st) s.heap.objs.size f (.ref c))) → sp xs H Q E →
      ∃ t, PSs (cxOf CX0 P w K mg base N x (defScope st) f (.ref c) A out s H E).nox (defBody st) t ∧
        t { nx := fun _ H' => Q .non H', rt := Q } (start N xs) H) : CalG P w K mg base (k + 1) x ps sp := by
  obtain ⟨f, oc, od, an, osl, kV, doc, pm, ct, l, cd, kp, m, b⟩ := D.ex
  exact ⟨f, _, okGC l cd S len (hbody f), m, kp, Binds.all b⟩
/-- the law's own def, at the address that the row names; the tables of code objects are known -/
theorem lawOkT {P : Program} {w : World} {K : PySem.W.Frag} {mg : Str → Option Value} {x y : Str} {st : Stmt} {N : List Str} {k : Nat} {sp : Sp} {fa : Addr} {cs : List (Addr × Addr)}
    (hf : mg x = some (.ref fa)) (D : DefAt K mg x st [y]) (S : FnScope N [y] (defScope st)) (len : ∀ xs H Q E, sp xs H Q E → xs.length = [y].length)
    (hbody : ∀ base : Heap, K.In base → base.Ns mainGlobals mg → (∀ p ∈ cs, LamX.TabB base mg p.1 p.2) → ∀ (f : Addr) (cdv : Value) (A : Around) (out : List Env) (s : Shared) (H : Hp) (xs : List V) (Q : VK) (E : XK), A.guards = some [] →
      Room k (A.deeper (envOfC x (defScope st) s.heap.objs.size f cdv)) → sp xs H Q E →
      ∃ t, PSs (cxOf CX0 P w K mg base N x (defScope st) f cdv A out s H E).nox (defBody st) t ∧
        t { nx := fun _ H' => Q .non H', rt := Q } (start N xs) H) :
    ∃ fd : FuncData, (∀ (s : Shared) (u : Value), BindsTo s fd ⟨[u], []⟩ [(y, u)]) ∧
      ∀ base : Heap, K.In base → base.Ns mainGlobals mg → (∀ p ∈ cs, LamX.TabB base mg p.1 p.2) → FnG P w K mg base CX0 (k + 1) fa fd [y] sp := by
  obtain ⟨f, fd, F, m, b⟩ := D.ex
  obtain rfl : f = fa := by
    rw [m] at hf
    cases hf
    rfl
  exact ⟨fd, fun s u => .of_eq (b [u] rfl), fun base h1 h2 h3 => okG F S len (hbody base h1 h2 h3 f)⟩
theorem lst_in {d p : Addr} {H : Hp} {ds : List PyData} (h : Dx (hide d H) (.ref p) (.list ds)) : ∃ xs, H p = some (.lst xs) ∧ p ≠ d ∧ DxAll (hide d H) xs ds := by
  cases h with
  | lst h1 h2 =>
    refine ⟨_, hide_le _ _ h1, fun e => ?_, h2⟩
    rw [e, hide_at] at h1
    cases h1
theorem newT {T : List (Addr × Str)} {d p : Addr} {H H' : Hp} {xs : List V} {ds : List PyData} (m : MvT T d H H') (n : H' p = none) (a : DxAll (hide d H') xs ds) :
    MvT T d H (upd H' p (.tup xs)) ∧ Dx (hide d (upd H' p (.tup xs))) (.ref p) (.tuple ds) ∧ ∀ {x : V} {dat : PyData}, Dx (hide d H') x dat → Dx (hide d (upd H' p (.tup xs))) x dat :=
  ⟨m.new n, .tup (by rw [hide_ne (m.dice.ne n)]; exact upd_same) (a.grow (fresh_same m.dice n)), fun h => h.grow (fresh_same m.dice n)⟩
theorem newL {T : List (Addr × Str)} {d p : Addr} {H H' : Hp} {xs : List V} {ds : List PyData} (m : MvT T d H H') (n : H' p = none) (a : DxAll (hide d H') xs ds) :
    MvT T d H (upd H' p (.lst xs)) ∧ Dx (hide d (upd H' p (.lst xs))) (.ref p) (.list ds) ∧ ∀ {x : V} {dat : PyData}, Dx (hide d H') x dat → Dx (hide d (upd H' p (.lst xs))) x dat :=
  ⟨m.new n, .lst (by rw [hide_ne (m.dice.ne n)]; exact upd_same) (a.grow (fresh_same m.dice n)), fun h => h.grow (fresh_same m.dice n)⟩
theorem newD {T : List (Addr × Str)} {d p : Addr} {H H' : Hp} (m : MvT T d H H') (n : H' p = none) :
    MvT T d H (upd H' p (.dK [])) ∧ Dx (hide d (upd H' p (.dK []))) (.ref p) (.dict []) ∧ ∀ {x : V} {dat : PyData}, Dx (hide d H') x dat → Dx (hide d (upd H' p (.dK []))) x dat :=
  ⟨m.new n, .dct (by rw [hide_ne (m.dice.ne n)]; exact upd_same) .nil, fun h => h.grow (fresh_same m.dice n)⟩
/-- nothing but a table stood at p -/
def NewAt (H : Hp) (p : Addr) : Prop := ∀ o, H p = some o → ∃ ps, o = .tbl ps
theorem MvT.newAt {T : List (Addr × Str)} {d p : Addr} {H H' : Hp} (a : MvT T d H H') (n : H' p = none) : NewAt H p := fun o ho => by
  have ne := a.dice.ne n
  refine Classical.byContradiction fun z => ?_
  have q := a.ext p o (by rw [hide_ne ne]; exact ho) fun ps e => z ⟨ps, e⟩
  rw [hide_ne ne, n] at q
  cases q
theorem MvT.put2 {T : List (Addr × Str)} {d p : Addr} {H H' : Hp} {xs : List V} {o : HO} (a : MvT T d H H') (n : NewAt H p) (ne : p ≠ d) (hp : H' p = some (.lst xs)) : MvT T d H (upd H' p o) := by
  refine ⟨fun b u e k => ?_, ?_, tabs_put a.tabs hp⟩
  · have nb : b ≠ p := fun q => by
      rw [q, hide_ne ne] at e
      obtain ⟨ps, z⟩ := n u e
      exact k ps z
    have q := a.ext b u e k
    by_cases h : b = d
    · subst h
      rw [hide_at] at q
      cases q
    · rw [hide_ne h] at q ⊢
      rw [upd_ne nb]
      exact q
  · obtain ⟨l, s, c, q⟩ := a.dice
    exact ⟨l, s, c, by rw [upd_ne ne.symm]; exact q⟩
theorem strsX {H : Hp} {p : Addr} (ws : List Str) (h : H p = some (.lst (ws.map V.str))) (K : PySem.W.Frag) : Dp K H (.ref p) (.list (ws.map .str)) := by
  refine .lst (SqL.of h) ?_
  clear h
  induction ws with
  | nil => exact .nil
  | cons b r ih => exact .cons (.str b) ih
theorem shaped_strs (ws : List Str) (h : ∀ w ∈ ws, PyData.strOk w = true) : SeqAt.shaped (.list (ws.map .str)) = true := by
  show (PyData.canLay0 (.list _) && decide (PyData.depth (.list _) ≤ 64)) = true
  rw [Bool.and_eq_true_iff]
  refine ⟨by simp only [PyData.canLay0]; exact canAll _ _ fun b hb => by simp [PyData.canLay0, h b hb], decide_eq_true ?_⟩
  have := depthAll0 0 PyData.str ws fun b _ => by simp [PyData.depth]
  simp only [PyData.depth]
  omega
theorem eqv_strs (ws : List Str) : PyData.eqv (.list (ws.map .str)) (.list (ws.map .str)) = true := by
  simp only [PyData.eqv]
  induction ws with
  | nil => simp [PyData.eqvAll]
  | cons b r ih => simp [PyData.eqvAll, PyData.eqv, ih]
theorem hu65 {k : Nat} {A : Around} (hr : Room k A) : A.units + 65 < cLine := by
  have := hr.un
  omega
def firstW (ws : List Str) : Str := (ws.filter fun w => !decide (w = ("" : Str))).headD ("" : Str)
def spFirst : Sp := fun vs H Q _ => ∃ (a : Addr) (ws : List Str), vs = [.ref a] ∧ H a = some (.lst (ws.map V.str)) ∧ ws.length ≤ 100 ∧ (∀ w ∈ ws, PyData.strOk w = true) ∧ ∀ H', Same H H' → Q (.str (firstW ws)) H'
end G

set_option Elab.async false
set_option linter.all false
set_option maxRecDepth 100000
set_option maxHeartbeats 4000000
namespace G
open PySem PySem.Spec PyProof.Rows L2
/-! ## a text times 0 or 1 -/
def pick01 (b : Bool) (i : Str) : Str := if b then i else ("" : Str)
theorem pick_len (b : Bool) (i : Str) : (pick01 b i).length ≤ i.length := by
  cases b with
  | true => exact Nat.le_refl _
  | false => exact Nat.zero_le _
theorem add_len {x : Str} {n : Nat} (h : x.length ≤ n) (b : Bool) (i : Str) : (x ++ pick01 b i).length ≤ n + i.length := by
  rw [Str.length_append]
  exact Nat.add_le_add h (pick_len b i)
section
variable {X : Cx}
theorem op_strmul : OpR X (binaryOp .Mult) (fun x y H Q => ∃ (i : Str) (b : Bool), x = .str i ∧ y = .int (if b then 1 else 0) ∧ Q (.str (pick01 b i)) H) := by
  intro pins s σ H x y v u Q I rx ry h
  obtain ⟨i, b, rfl, rfl, q⟩ := h
  obtain ⟨t, rfl⟩ := rx
  cases b with
  | true =>
    obtain ⟨t', rfl⟩ := ry
    refine PySem.P.mul_str (by decide) (fun _ z => ?_) (fun _ z => ?_) ?_
    · simp at z
    · simp at z
    · exact ⟨.str i, H, I, ⟨t, rfl⟩, q⟩
  | false =>
    obtain ⟨t', rfl⟩ := ry
    exact PySem.P.mul_str_none (by decide) (by decide) ⟨.str _, H, I.tok _, ⟨_, rfl⟩, q⟩
end
/-! ## exceptions as values: tracked, or the one that the suite holds -/
def IsE (H : Hp) (a D : Addr) (dd : Option Addr) : Prop := ∃ φ, H a = some (.ext φ) ∧ ∀ h : Heap, φ h → ∃ oe vs, h.get? a = some oe ∧ Zc (.ref D) dd oe ∧ oe.data = .fields vs
theorem IsE.grow {H H' : Hp} {a D : Addr} {dd : Option Addr} (s : Same H H') (h : IsE H a D dd) : IsE H' a D dd :=
  let ⟨φ, e, k⟩ := h
  ⟨φ, s _ _ e, k⟩
theorem isE_new {H : Hp} {a C : Addr} : IsE (upd H a (ExO (.ref C) a)) a C none := ⟨_, upd_same, fun h ⟨oe, vs, e, z, d, _⟩ => ⟨oe, vs, e, z, d⟩⟩
def ExD (D dd : Addr) (a : Addr) : HO := .ext fun h => ∃ (oe : Obj) (vs : Array Value), h.get? a = some oe ∧ Zc (.ref D) (some dd) oe ∧ oe.data = .fields vs
theorem isE_newD {H : Hp} {a D dd : Addr} : IsE (upd H a (ExD D dd a)) a D (some dd) := ⟨_, upd_same, fun h x => x⟩
/-- what the context knows of an exception: tracked or pinned -/
def KnE (X : Cx) (H : Hp) (a D : Addr) (dd : Option Addr) : Prop := (IsE H a D dd ∧ ∀ d, dd = some d → ∃ fs, H d = some (.xd fs)) ∨ (dd = none ∧ ∃ oe, (a, oe) ∈ X.pn ∧ Zc (.ref D) none oe ∧ ∃ vs, oe.data = .fields vs)
structure ExcK (K : PySem.W.Frag) (D : Addr) : Prop where
  hcl : PySem.W.isClsIn K D = true
  hga : PySem.W.findIn K (.ref D) "__getattribute__" = some (some (.builtin "BaseException.__getattribute__"))
  hgt : PySem.W.findIn K (.ref D) "__getattr__" = some none
  hsub : PySem.W.subIn K (.ref D) (.type "BaseException") = some true
  ha : PySem.W.findIn K (.ref D) "__class__" = some (some (.builtin "object.__class__"))
  hn : PySem.W.specialIn K (.builtin "object.__class__") "__get__" = some (some (.builtin "getset_descriptor.__get__"))
  htk : PySem.W.takesIn K (.builtin "object.__class__") = some true
  hm : PySem.W.mroIn K D (.type "object") = some true
section
variable {X : Cx}
theorem KnE.inst {pins : List (Addr × Obj)} {σ : L2.St} {H : Hp} {s : Shared} {a D : Addr} {dd : Option Addr} (I : Inv X pins σ H s) (k : KnE X H a D dd) : ∃ oe od, PySem.W.InstAt s.heap a oe D od := by
  have mk : ∀ (oe : Obj) (vs : Array Value), s.heap.get? a = some oe → oe.cls = .ref D → oe.dict = none → oe.data = .fields vs → PySem.W.InstAt s.heap a oe D none := by
    intro oe vs h1 h2 h3 h4
    obtain ⟨oc, ox, oda, osl⟩ := oe
    dsimp only at h2 h3 h4
    subst h2 h3 h4
    exact ⟨h1, rfl, rfl, trivial⟩
  rcases k with ⟨⟨φ, e, kk⟩, hd⟩ | ⟨rfl, oe, hp, hz, vs, hv⟩
  · obtain ⟨hφ, _, _⟩ := I.hok a _ e
    obtain ⟨oe, vs, h1, h2, h3⟩ := kk _ hφ
    match dd, h2, hd with
    | none, h2, _ => exact ⟨oe, none, mk oe vs h1 h2.1 h2.2 h3⟩
    | some d, h2, hd =>
      obtain ⟨fs, hf⟩ := hd d rfl
      obtain ⟨mA, hns, _⟩ : ObjOk X.prog X.w H s.heap d (.xd fs) := I.hok d _ hf
      obtain ⟨od, ho, _⟩ := lookIn_ns hns
      exact ⟨oe, some od, ⟨h1, h2.1, by unfold PySem.W.notCls; rw [h3] <;> rfl, by rw [h2.2]; exact ho⟩⟩
  · obtain ⟨h1, _⟩ := I.pin (a, oe) (List.mem_append_left _ hp)
    exact ⟨oe, none, mk oe vs h1 hz.1 hz.2 hv⟩
def rIsV (X : Cx) : List V → Hp → VK → Prop := fun xs H Q => ∃ (a D : Addr) (dd : Option Addr) (c : V) (u : Value) (b : Bool), xs = [.ref a, c] ∧ ClsV c u ∧ KnE X H a D dd ∧ ExcK X.K D ∧ PySem.W.kitOne X.K (.ref D) u = some b ∧ Q (.bl b) H
theorem call_isV : CallR X (.builtin "isinstance") (rIsV X) := by
  intro pins s σ H xs us Q I r h
  obtain ⟨a, D, dd, c, u, b, rfl, kc, kn, C, e, q⟩ := h
  obtain ⟨u1, u2, rfl, r1, r2⟩ := vals2 r
  cases (show u1 = Value.ref a from r1)
  have e2 := kc.eq r2
  subst e2
  obtain ⟨oe, od, J⟩ := kn.inst I
  exact PySem.W.kia_one (PySem.W.kitx_exc (od := od) C.hcl C.hga C.hgt C.hsub C.ha C.hn C.htk C.hm) I.kIn J e (fun z => nomatch z) fun tk => ⟨.bl b, H, I.tok tk, rfl, q⟩
end
/-! ## a def that is called in a suite with the exception that this holds -/
structure FnE (P : Program) (w : World) (K : PySem.W.Frag) (mg : Str → Option Value) (base : Heap) (k : Nat) (f : Addr) (fd : FuncData) (ps : List Str) (sp : Addr × Obj → Sp) : Prop where
  len : ∀ p xs H Q E, sp p xs H Q E → xs.length = ps.length
  go : ∀ (A : Around) (out : List Env) (s : Shared) (H : Hp) (args : Args) (us : List Value) (xs : List V) (Q : VK) (E : XK) (p : Addr × Obj), L2H.RoomH k A → L2H.PinOk out H s p → Env0 P w K mg base A out s H →
    BindsTo s fd args (ps.zip us) → Vals xs us → sp p xs H Q E → codeAny (model P w) A (.call (.ref f) args) (CR CX0 out P w H s Q E) s
theorem okE {P : Program} {w : World} {K : PySem.W.Frag} {mg : Str → Option Value} {base : Heap} {x qual : Str} {st : Stmt} {f : Addr} {fd : FuncData}
    {N ps : List Str} {k : Nat} {sp : Addr × Obj → Sp} (F : Fun K x qual st f fd) (S : FnScope N ps (defScope st)) (len : ∀ p xs H Q E, sp p xs H Q E → xs.length = ps.length)
    (hbody : ∀ (cdv : Value) (A : Around) (out : List Env) (s : Shared) (H : Hp) (xs : List V) (Q : VK) (E : XK) (p : Addr × Obj), L2H.RoomH k (A.deeper (envOfC qual (defScope st) s.heap.objs.size f cdv)) → sp p xs H Q E →
      ∃ t, PSs (L2H.cxH CX0 P w K mg base N qual (defScope st) f cdv A out s H E p) (defBody st) t ∧ t { nx := fun _ H' => Q .non H', rt := Q } (start N xs) H) :
    FnE P w K mg base (k + 1) f fd ps sp := by
  obtain ⟨oc, od, kV, doc, pm, an, cdv, ct, osl, rfl, lk, hcd⟩ := F.ex
  refine ⟨len, fun A out s H args us xs Q E p hr hpin e0 hb r hsp => ?_⟩
  have old : ∀ b o, base.get? b = some o → s.heap.get? b = some o := fun b o q => (e0.bs b o q).1
  refine codeAny_call_function hr.depth (e0.mod.kin.keeps old _ _ lk) rfl S.co S.gen rfl (PySem.W.codeRec_of (e0.mod.kin.keeps old) hcd) (hb _ _ _ _ ?_)
  refine wpAny_newFunctionEnv_cells S.kind (fun y hy => ?_) fun env he s1 x1 => ?_
  · have q := S.par y.1 (List.of_mem_zip (a := y.1) (b := y.2) hy).1
    exact q.elim .inl fun q => .inr ⟨q, PySem.W.cellsFrom_some _ _ _ (.inl q)⟩
  · subst he
    refine ⟨(e0.mod.nolimit.keeps old).keeps x1.toInCall.keep, codeAny_func ?_⟩
    obtain ⟨t, ht, hq⟩ := hbody cdv A out s H xs Q E p (hr.deeper _) hsp
    have I := L2H.inv_startH (CX := CX0) (P := P) (w := w) (K := K) (mg := mg) (base := base) (N := N) (ps := ps) (E := E) S hpin e0 (len _ _ _ _ _ hsp) r x1
    refine wpAny_mono (ht.run [] s1 (start N xs) H _ I hq) (fun fl s2 hs => ?_) fun _ _ z => z
    match fl, hs with
    | .ret u, ⟨v, σ', H', J, rv, q⟩ => exact ⟨v, H', J.os, J.bare, J.base, J.hok, rv, q⟩
    | .next, ⟨σ', H', J, q⟩ => exact ⟨V.non, H', J.os, J.bare, J.base, J.hok, rfl, q⟩
    | .brk, ⟨_, _, _, q⟩ => exact q.elim
    | .cont, ⟨_, _, _, q⟩ => exact q.elim
structure CalE (P : Program) (w : World) (K : PySem.W.Frag) (mg : Str → Option Value) (base : Heap) (k : Nat) (x : Str) (ps : List Str) (sp : Addr × Obj → Sp) : Prop where
  ex : ∃ f fd, FnE P w K mg base k f fd ps sp ∧ mg x = some (.ref f) ∧ PySem.W.keepIn K (.ref f) = true ∧ Binds K fd ps []
theorem calOkE {P : Program} {w : World} {K : PySem.W.Frag} {mg : Str → Option Value} {base : Heap} {x : Str} {st : Stmt} {N ps : List Str} {k : Nat} {sp : Addr × Obj → Sp}
    (D : DefAt K mg x st ps) (S : FnScope N ps (defScope st)) (len : ∀ p xs H Q E, sp p xs H Q E → xs.length = ps.length)
    (hbody : ∀ (f : Addr) (cdv : Value) (A : Around) (out : List Env) (s : Shared) (H : Hp) (xs : List V) (Q : VK) (E : XK) (p : Addr × Obj), L2H.RoomH k (A.deeper (envOfC x (defScope st) s.heap.objs.size f cdv)) → sp p xs H Q E →
      ∃ t, PSs (L2H.cxH CX0 P w K mg base N x (defScope st) f cdv A out s H E p) (defBody st) t ∧ t { nx := fun _ H' => Q .non H', rt := Q } (start N xs) H) : CalE P w K mg base (k + 1) x ps sp := by
  obtain ⟨f, fd, F, m, b⟩ := D.ex
  exact ⟨f, fd, okE F S len (hbody f), m, F.kp, Binds.all b⟩
section
variable {X : Cx} {k j : Nat} {ps : List Str} {sp : Addr × Obj → Sp} {x : Str} {p pos : Pos} {e : Expr} {es : List Expr} {t : TA} {a : Addr} {oe : Obj} {pn : List (Addr × Obj)}
/-- such a def called in the suite -/
theorem pe_ke (c : CalE X.prog X.w X.K X.mg X.base k x ps sp) (hr : Room j X.A) (hk : k ≤ j) (hg : Gl X x) (ha : PA (X.suite a ((a, oe) :: pn)) (e :: es) t)
    (hdb : (x == ("__debug__" : Str)) = false := by decide)
    (he : starEach (e :: es) X.env = (false, eval e X.env) :: starEach es X.env := by rfl)
    (hpl : (backTo pos (starEach es X.env)).any (·.1) = false := by rfl) :
    PE (X.suite a ((a, oe) :: pn)) (.Call (.Name x p) (e :: es) [] pos) (fun σ H Q => t σ H fun vs H1 => sp (a, oe) vs H1 Q fun _ _ _ => False) := by
  obtain ⟨f, fd, F, m, kp, b⟩ := c.ex
  refine ⟨fun pins s σ H Q I h => wpAny_Call_Name_kw (ld_glob (X := X.suite a ((a, oe) :: pn)) I hg m
    (PySem.W.callWith_K (h₀ := X.base) I.ok.mod.kin kp
      (thn (ha.run pos pins s σ H _ I h) fun us s1 ⟨xs, H1, I1, r, q⟩ => ⟨I1.kIn, ?_⟩) he hpl) hdb)⟩
  have sz : us.length = ps.length := r.length.symm.trans (F.len _ _ _ _ _ q)
  have P1 := I1.pin (a, oe) (List.mem_append_left _ List.mem_cons_self)
  have hpin : L2H.PinOk X.stack H1 s1 (a, oe) := ⟨P1.1, P1.2.1, fun hm => (List.mem_cons.mp (I1.stkSub a hm)).elim P1.2.2.1 P1.2.2.2.1, P1.2.2.2.2⟩
  have hr2 : L2H.RoomH k (X.suite a ((a, oe) :: pn)).A := ⟨by have := (hr.mono hk).dp; exact this, by have := (hr.mono hk).un; exact this⟩
  have body := F.go (X.suite a ((a, oe) :: pn)).A X.stack s1 H1 ⟨us, []⟩ us xs Q (fun _ _ _ => False) (a, oe) hr2 hpin I1.env0 (by have := b s1 us I1.kIn (by rw [List.append_nil]; exact sz); rwa [List.append_nil] at this) r q
  refine wpAny_call (codeAny_mono body fun res t hq => ?_)
  match res, hq with
  | .error e, hq => exact hq.elim
  | .ok (.ret u), hq => exact I1.after hq
  | .ok .next, hq => exact hq.elim
  | .ok .brk, hq => exact hq.elim
  | .ok .cont, hq => exact hq.elim
end
/-! ## texts of data with dicts in them -/
section
variable {X : Cx} {pins : List (Addr × Obj)} {σ : L2.St} {H : Hp} {s : Shared}
theorem no_mods (hS : ∃ o, X.base.get? sysModules = some o) (I : Inv X pins σ H s) {a : Addr} {u : HO} (h : H a = some u) : a ≠ sysModules := fun e => by
  obtain ⟨o, ho⟩ := hS
  have z := (I.bs _ _ ho).2
  rw [← e, h] at z
  cases z
mutual
theorem Dx.rd (hS : ∃ o, X.base.get? sysModules = some o) (I : Inv X pins σ H s) : ∀ {x : V} {d : PyData}, Dx H x d → ∀ {u : Value}, RelV x u → ∃ as, Reads s.heap u d as ∧ sysModules ∉ as
  | _, _, .non, u, r => by
    cases (show u = Value.none from r)
    exact ⟨[], .none, fun z => nomatch z⟩
  | _, _, .bl b, u, r => by
    cases (show u = Value.bool b from r)
    exact ⟨[], .bool b, fun z => nomatch z⟩
  | _, _, .int i, u, r => by
    obtain ⟨t, rfl⟩ := (show ∃ t, u = Value.int i t from r)
    exact ⟨[], .int i t, fun z => nomatch z⟩
  | _, _, .str x, u, r => by
    obtain ⟨t, rfl⟩ := (show ∃ t, u = Value.str x t from r)
    exact ⟨[], .str x t, fun z => nomatch z⟩
  | _, _, .lst (a := a) (xs := xs) ha hx, u, r => by
    cases (show u = Value.ref a from r)
    obtain ⟨_, its, n, rv, hg⟩ : ObjOk X.prog X.w H s.heap a (.lst xs) := I.hok a _ ha
    obtain ⟨as, ra, na⟩ := DxAll.rd hS I hx rv
    exact ⟨a :: as, .list hg rfl rfl (by simpa using ra), fun z => (List.mem_cons.mp z).elim (fun e => no_mods hS I ha e.symm) na⟩
  | _, _, .tup (a := a) (xs := xs) ha hx, u, r => by
    cases (show u = Value.ref a from r)
    obtain ⟨_, its, rv, o, h1, h2, n, h3⟩ : ObjOk X.prog X.w H s.heap a (.tup xs) := I.hok a _ ha
    obtain ⟨as, ra, na⟩ := DxAll.rd hS I hx rv
    exact ⟨as, .tuple h1 h2 h3 (by simpa using ra), na⟩
  | _, _, .dct (a := a) (kvs := kvs) ha hx, u, r => by
    cases (show u = Value.ref a from r)
    obtain ⟨_, hs, vs, kv, o, es, ep, ho, hxd, hd, _, hp, _⟩ : ObjOk X.prog X.w H s.heap a (.dK kvs) := I.hok a _ ha
    obtain ⟨as, bs, r1, r2, n1, n2⟩ := DxKv.rd hS I hx kv hp
    refine ⟨a :: as ++ bs, .dict ho hxd.1 hd r1 r2, fun z => ?_⟩
    rcases List.mem_append.mp z with z | z
    · exact (List.mem_cons.mp z).elim (fun e => no_mods hS I ha e.symm) n1
    · exact n2 z
theorem DxAll.rd (hS : ∃ o, X.base.get? sysModules = some o) (I : Inv X pins σ H s) : ∀ {xs : List V} {ds : List PyData}, DxAll H xs ds → ∀ {us : List Value}, Vals xs us → ∃ as, ReadsAll s.heap us ds as ∧ sysModules ∉ as
  | _, _, .nil, _, .nil => ⟨[], .nil, fun z => nomatch z⟩
  | _, _, .cons h1 h2, _, .cons r1 r2 => by
    obtain ⟨as, q1, n1⟩ := Dx.rd hS I h1 r1
    obtain ⟨bs, q2, n2⟩ := DxAll.rd hS I h2 r2
    exact ⟨as ++ bs, .cons q1 q2, fun z => (List.mem_append.mp z).elim n1 n2⟩
theorem DxKv.rd (hS : ∃ o, X.base.get? sysModules = some o) (I : Inv X pins σ H s) : ∀ {kvs : List (Key × V)} {ps : List (PyData × PyData)}, DxKv H kvs ps → ∀ {vs : List (Key × Value)} {es : List DictEntry}, KV kvs vs → Pairs (mixKind X.prog X.w) es vs →
    ∃ as bs, ReadsAll s.heap (es.map (·.key)) (ps.map (·.1)) as ∧ ReadsAll s.heap (es.map (·.val)) (ps.map (·.2)) bs ∧ sysModules ∉ as ∧ sysModules ∉ bs
  | _, _, .nil, _, _, .nil, .nil => ⟨[], [], .nil, .nil, (fun z => nomatch z), fun z => nomatch z⟩
  | _, _, .cons (k := k) h1 h2, _, _, .cons kq kr, .cons (e := e) pk pv pr => by
    obtain ⟨as, q1, n1⟩ := Dx.rd hS I h1 kq.2
    obtain ⟨as2, bs2, r1, r2, m1, m2⟩ := DxKv.rd hS I h2 kr pr
    have hk : Reads s.heap e.key (keyD k) [] := by
      have z := pk
      rw [← kq.1] at z
      rcases keyIs_shape z with ⟨i, t, e1, e2⟩ | ⟨i, t, e1, e2⟩
      · rw [show k = Sum.inl i from e1, e2]
        exact .int i t
      · rw [show k = Sum.inr i from e1, e2]
        exact .str i t
    refine ⟨[] ++ as2, as ++ bs2, .cons hk r1, .cons (by show Reads s.heap e.val _ as; rw [pv]; exact q1) r2, fun z => ?_, fun z => (List.mem_append.mp z).elim n1 m2⟩
    rw [List.nil_append] at z
    exact m1 z
end
structure ShwD (d : PyData) : Prop where
  able : d.showable = true
  deep : d.depth ≤ 60
  fits : d.shown.length ≤ sizeLine
theorem shwD {d : PyData} (h : Shw d) : ShwD d := ⟨h.able, h.deep, h.fits⟩
def rReprD : List V → Hp → VK → Prop := fun xs H Q => ∃ (x : V) (d : PyData), xs = [x] ∧ Dx H x d ∧ ShwD d ∧ Q (.str d.shown) H
theorem call_reprD (hS : ∃ o, X.base.get? sysModules = some o) (hgd : X.A.guards = some []) (hu : X.A.units + 64 < cLine) : CallR X (.builtin "repr") rReprD := by
  intro pins s σ H xs us Q I r h
  obtain ⟨x, d, rfl, hx, hw, q⟩ := h
  obtain ⟨u, rfl, ru⟩ := vals1 r
  obtain ⟨as, rd, na⟩ := Dx.rd hS I hx ru
  have fin : ∀ h' t tk, (∀ b o, s.heap.get? b = some o → h'.get? b = some o) → EP X pins σ Q (.str d.shown t) { s with heap := h', toks := tk } :=
    fun h' t tk kp => ⟨.str d.shown, H, I.kept kp, ⟨t, rfl⟩, q⟩
  have room : X.A.units + (d.depth + 1) < cLine := by have := hw.deep; omega
  cases hx with
  | lst hl ha =>
    cases (show u = Value.ref _ from ru)
    exact repr_of_reads' rd hw.able (fun _ => na) hgd room (fun _ _ e => e) fin hw.fits
  | tup hl ha =>
    cases (show u = Value.ref _ from ru)
    exact repr_of_reads' rd hw.able (fun _ => na) hgd room (fun _ _ e => e) fin hw.fits
  | dct hl ha =>
    cases (show u = Value.ref _ from ru)
    exact repr_of_reads' rd hw.able (fun _ => na) hgd room (fun _ _ e => e) fin hw.fits
  | int i => exact call_repr hgd hu pins s σ H _ _ Q I r ⟨_, _, rfl, .int i, ⟨by simp [PyData.hasDict], hw.able, hw.deep, hw.fits⟩, q⟩
  | non => exact call_repr hgd hu pins s σ H _ _ Q I r ⟨_, _, rfl, .non, ⟨by simp [PyData.hasDict], hw.able, hw.deep, hw.fits⟩, q⟩
  | bl b => exact call_repr hgd hu pins s σ H _ _ Q I r ⟨_, _, rfl, .bl b, ⟨by simp [PyData.hasDict], hw.able, hw.deep, hw.fits⟩, q⟩
  | str x => exact call_repr hgd hu pins s σ H _ _ Q I r ⟨_, _, rfl, .str x, ⟨by simp [PyData.hasDict], hw.able, hw.deep, hw.fits⟩, q⟩
end
end G

set_option Elab.async false
set_option linter.all false
set_option maxRecDepth 100000
set_option maxHeartbeats 2000000
/-! own exceptions over KeyError: made by LookupError's __new__, with KeyError in the chain -/
namespace PySem.KerrX
open Builtin Builtin.ObjectAttr PySem.W PySem.Calls PyProof.Rows PySem.HandSPX
/-- what making asks of the classes above -/
structure Above (B : String) (up : List Value) : Prop where
  it : up.contains (.type B) = true
  noA : up.contains (.type "AttributeError") = false
  noN : up.contains (.type "NameError") = false
theorem storeK : StoreFacts "KeyError" [.type "KeyError", .type "LookupError", .type "Exception", .type "BaseException", .type "object"] "object.__setattr__" "object" :=
  let L := PySem.F.store_LookupError
  { mro := by kernel_rfl, entry := L.entry, kind := L.kind, split := L.split, args := L.args, hasOwner := by decide +kernel, passes := fun _ => by kernel_rfl,
    slot := .of (owner := "object") (n := "__setattr__") (by rw [typeLookup_type, builtinLookup_eq_fast]; kernel_rfl) (by decide +kernel) (by decide +kernel) (by decide +kernel) (by first | exact .inl (by decide +kernel) | exact .inr (by decide +kernel)) (by rw [isSubtype_type]; kernel_rfl) }
section
variable {prog : Program} {w : World} {A : Around} {E : Value → Shared → Prop} {R : Result → Shared → Prop} {hp : Heap} {g : Array GenState} {dr : Drawn} {t : Nat} {os : OsState} {a0 qn : Str} {C N : Addr} {bs up low : List Value} {hd : Bool} {sn : List Str} {sb : List Value} {ab : Bool} {co : Option Bool} {dc : Option Addr} {u0 u1 u2 u3 u5 : Option Value} {B nw ini : String} {xs : List Value}
theorem chk (F : ExcBaseFacts B nw ini low) (U : Above B up) {Q : Unit → Shared → Prop} (hc : hp.get? C = some (excClassObj a0 qn C N bs up hd sn sb ab co dc u0 u1 u2 u3 u5 nw)) (z : Q () ⟨hp, g, dr, t, os⟩) :
    wpAny (model prog w) A (checkBuiltinCall nw ⟨.ref C :: xs, []⟩) Q E ⟨hp, g, dr, t, os⟩ := by
  have i1 : (Value.ref C :: up).contains (.type B) = true := by
    rw [List.contains_cons, U.it, Bool.or_true]
  have i2 := F.noStar
  simp only [checkBuiltinCall, F.newKind, F.newSplit, F.newRow]
  repeat (first | wp_step | refine wpAny_loadPart_at hc ?_ | (refine wpAny_isSubtype_exc hc ?_; rw [i1]) | refine wpAny_staticBase_exc hc ?_ | refine wpAny_madeBy_exc hc ?_ | simp only [bne_self_eq_false, Bool.false_eq_true, if_false])
  exact z
theorem mk0 (F : ExcBaseFacts B nw ini low) (U : Above B up) (hc : hp.get? C = some (excClassObj a0 qn C N bs up hd sn sb ab co dc u0 u1 u2 u3 u5 nw)) (fits : xs.length ≤ sizeLine)
    (z : R (.ok (.ret (.ref (hp.objs.size + 1)))) ⟨(hp.push (kdv_tup xs)).push (excO C hp.objs.size), g, dr, t, os⟩) : codeAny (model prog w) A (.builtin nw ⟨.ref C :: xs, []⟩) R ⟨hp, g, dr, t, os⟩ := by
  have i0 := F.ends
  have i1 : (Value.ref C :: up).contains (.type B) = true := by
    rw [List.contains_cons, U.it, Bool.or_true]
  have i2 : (Value.ref C :: up).contains (.type "AttributeError") = false := by
    rw [List.contains_cons, U.noA] <;> rfl
  have i3 : (Value.ref C :: up).contains (.type "NameError") = false := by
    rw [List.contains_cons, U.noN] <;> rfl
  have hrest := fits
  refine codeAny_builtinAt F.entry ?_
  unfold Builtin.«BaseException.__new__»
  refine wpAt_bind ?_
  show wpAt _ _ _ (stack >>= _) _ _ _
  refine wpAt_bind (wpAt_stack fun p below => wpAt_of_wpAny ?_)
  wp_walk
  refine wpAt_of_wpAny ?_
  rw [F.owner]
  repeat (first | with_reducible refine wpAny_madeHere_exc F.canon hc ?_ | with_reducible refine wpAny_loadPart_at hc ?_ | (with_reducible refine wpAny_isSubtype_exc hc ?_; first | rw [i1] | rw [i2] | rw [i3]) | wp_step)
  show R _ _
  rw [Heap.size_push]
  exact z
theorem mk1 (F : ExcBaseFacts B nw ini low) (U : Above B up) {fI : Addr} {Q : Fin → Shared → Prop} (hc : hp.get? C = some (excClassObj a0 qn C N bs up hd sn sb ab co dc u0 u1 u2 u3 u5 nw))
    (hi : Looks (model prog w) hp (typeLookup (.ref C) "__init__") (some (.ref fI))) (hb : ∀ self, Looks (model prog w) hp (bindSpecial (.ref fI) self) (.ref fI, [self])) (fits : xs.length ≤ sizeLine)
    (z : codeAny (model prog w) A (.call (.ref fI) ⟨.ref (hp.objs.size + 1) :: xs, []⟩) (fun r s' => match r with | .ok (.ret v) => v = .none ∧ Q (.done (.ret (.ref (hp.objs.size + 1)))) s' | .ok _ => False | .error e => E e s') ⟨(hp.push (kdv_tup xs)).push (excO C hp.objs.size), g, dr, t, os⟩) :
    wpAny (model prog w) A (Builtin.«type.__call__» ⟨.ref C :: xs, []⟩) Q E ⟨hp, g, dr, t, os⟩ := by
  repeat (first | with_reducible refine wpAny_loadPart_at hc ?_ | with_reducible refine wpAny_madeBy_exc hc ?_ | wp_step)
  refine codeAny_call_builtin_code (Code.quiet_builtin _ F.quiet) (chk F U hc ?_)
  refine mk0 F U hc fits ?_
  show wpAny _ _ _ _ _ _
  have k : ∀ b o, hp.get? b = some o → ((hp.push (kdv_tup xs)).push (excO C hp.objs.size)).get? b = some o := fun b o e => Heap.get?_push_of_some _ (Heap.get?_push_of_some _ e)
  have hc' := k _ _ hc
  have new : ((hp.push (kdv_tup xs)).push (excO C hp.objs.size)).get? (hp.objs.size + 1) = some (excO C hp.objs.size) := by heap_get
  have own : (Value.ref C :: up).contains (.ref C) = true := by simp
  have i1 := hi.keeps k
  have b1 := (hb (.ref (hp.objs.size + 1))).keeps k
  unfold isInstance
  repeat (first | with_reducible refine wpAny_loadPart_at new ?_ | (with_reducible refine wpAny_isSubtype_exc hc' ?_; rw [own]) | wp_step)
  show wpAny _ _ (typeLookup (.ref C) _) _ _ _
  refine i1.at ?_
  refine wpAny_holding (wpAny_bind (b1.at ?_))
  refine wpAny_bind (wpAny_call (codeAny_mono z fun r s' q => ?_))
  rcases r with e | (v | _ | _ | _) <;> first | exact q | exact q.elim | skip
  obtain ⟨rfl, q⟩ := q
  first
    | exact wpAny_pure (wpAny_pure q)
    | (wp_walk; exact q)
theorem mk2 (F : ExcBaseFacts B nw ini low) (U : Above B up) {fI : Addr} (hc : hp.get? C = some (excClassObj a0 qn C N bs up hd sn sb ab co dc u0 u1 u2 u3 u5 nw))
    (hi : Looks (model prog w) hp (typeLookup (.ref C) "__init__") (some (.ref fI))) (hb : ∀ self, Looks (model prog w) hp (bindSpecial (.ref fI) self) (.ref fI, [self])) (fits : xs.length ≤ sizeLine)
    (z : codeAny (model prog w) (A.under (.builtin "type.__call__" ⟨.ref C :: xs, []⟩)) (.call (.ref fI) ⟨.ref (hp.objs.size + 1) :: xs, []⟩) (InitBack (hp.objs.size + 1) R) ⟨(hp.push (kdv_tup xs)).push (excO C hp.objs.size), g, dr, t, os⟩) :
    codeAny (model prog w) A (.call (.ref C) ⟨xs, []⟩) R ⟨hp, g, dr, t, os⟩ := by
  have f1 := tc_lookup
  have f2 := tc_bind (.ref C)
  have ty : (⟨hp, g, dr, t, os⟩ : Shared).TypeIs (.ref C) "type" := ⟨_, hc, rfl⟩
  refine codeAny_of_tree ?_
  show wpAny _ _ (callAny (.ref C) _) _ _ _
  repeat (any_goals (first | assumption | with_reducible refine wpAny_loadPart_at hc ?_ | wp_step))
  refine ⟨rfl, ?_⟩
  refine codeAny_call_builtin_at (Code.quiet_builtin _ (by decide +kernel)) entry_typeCall (wpAny_check_type_call_sub hc (mk1 F U hc hi hb fits ?_))
  refine codeAny_mono z fun r s' q => ?_
  rcases r with e | (v | _ | _ | _) <;> exact q
end
theorem aboveK {up : List Value} (h : ∀ X : String, up.contains (.type X) = ([.type "KeyError", .type "LookupError", .type "Exception", .type "BaseException", .type "object"] : List Value).contains (.type X)) : Above "LookupError" up := ⟨by rw [h]; decide +kernel, by rw [h]; decide +kernel, by rw [h]; decide +kernel⟩
end PySem.KerrX

set_option Elab.async false
set_option linter.all false
set_option maxRecDepth 100000
set_option maxHeartbeats 4000000
namespace G
open PySem PySem.Spec PyProof.Rows L2
/-! ## the end of a row, the base knows where sys.modules stands -/
theorem endGS {l : PySem.W.OpenLaw} {n k : Nat} {q : Program} {loose : List Str} {XP : (Str → Option Value) → Heap → Prop} {YP : World → Heap → Prop} {d : DefRec}
    {K : Params → PySem.W.Frag} {sp : PySem.W.Frag → Sp} {x : Str}
    (hn : l.most = some n) (hn2 : n ≤ sizeLine) (hdf : d.params.defaults = []) (hr : Room k callerA) (hI : importsNone q = true)
    (hY : ∀ (w : World) (h : Heap), YP w h → (K w.params).In h)
    (F : ∀ (w : World) (mg : Str → Option Value) (fa : Addr) (h : Heap), (K w.params).In h → h.Ns mainGlobals mg → mg d.name = some (.ref fa) →
      ∃ fd : FuncData, (∀ (s : Shared) (u : Value), BindsTo s fd ⟨[u], []⟩ [(x, u)]) ∧
        ∀ base : Heap, (K w.params).In base → base.Ns mainGlobals mg → (∃ o, base.get? sysModules = some o) → FnG l.prog w (K w.params) mg base CX0 k fa fd [x] (sp (K w.params)))
    (hsp : ∀ (K : PySem.W.Frag) (H : Hp) (a : Addr) (ns : List Int), ns.length ≤ n → SqL K H a (ns.map V.int) →
      sp K [.ref a] H (fun v _ => v = .bl true) fun _ _ _ => False) :
    PySem.W.WalkO q loose XP YP l.row.toRowW d [] (fun f vs => PySem.call f vs) := by
  refine Att.attach_call hn hdf fun w s0 s1 mg mb fa o pm cd doc a vs ns gr Y ho hd hcd hmg ha hi hl hgn => ?_
  have KX := hY w _ Y
  obtain ⟨fd, hbind, F⟩ := F w mg fa _ KX gr.T.g hmg
  have rv := vals_ints hi
  have lenV := hi.length
  have nsz : ns.length ≤ sizeLine := Nat.le_trans hl hn2
  -- the tracked heap T: nothing, or the script alone
  have main : ∀ T : Hp, (∀ b, T b = none ∨ ∃ ob xs, T b = some (.frz ob (.lst xs))) → SqL (K w.params) T a (ns.map V.int) → HOk l.prog w T s1.heap →
      (∀ b, T b ≠ none → b = a) → (T a ≠ none → (K w.params).lookup a = none) →
      codeAny (model l.prog w) callerA (.call (.ref fa) ⟨[.ref a], []⟩)
        (fun r t => r = .ok (.ret (.bool true)) ∧ OldK s1.heap t.heap ∧ t.os = s1.os ∧ AllBare t.gens) s1 := by
    intro T only hS hok only_a notK
    have keepD : ∀ {b : Addr} {ob : Obj}, s1.heap.get? b = some ob → (∃ es ep, ob.data = .dict es ep) → (hidT s1.heap T).get? b = some ob := by
      intro b ob e ⟨es, ep, ed⟩
      refine hidT_get e ?_
      match q : T b with
      | none => rfl
      | some u =>
        have hb : b = a := only_a b (by rw [q]; exact Option.some_ne_none _)
        subst hb
        rw [ha] at e
        cases e
        cases (show Data.seq vs.toArray _ = Data.dict es ep from ed)
    have nsT : ∀ {b : Addr} {m : Str → Option Value}, s1.heap.Ns b m → (hidT s1.heap T).Ns b m := by
      rintro b m ⟨ob, es, ep, e, ed, r⟩
      exact ⟨ob, es, ep, keepD e ⟨es, ep, ed⟩, ed, r⟩
    have inT : (K w.params).In (hidT s1.heap T) := by
      intro b ob e
      refine hidT_get (KX b ob e) ?_
      match q : T b with
      | none => rfl
      | some u =>
        have hb : b = a := only_a b (by rw [q]; exact Option.some_ne_none _)
        subst hb
        rw [notK (by rw [q]; exact Option.some_ne_none _)] at e
        cases e
    have nolim : (hidT s1.heap T).NoLimit := by
      obtain ⟨mc, h1, h2⟩ := gr.T.nolimit
      exact ⟨mc, nsT h1, h2⟩
    have md : Mod (K w.params) mg (hidT s1.heap T) := ⟨inT, nsT gr.T.g, ⟨mb, nsT gr.T.b, gr.T.builtins⟩, nolim⟩
    have e0 : Env0 l.prog w (K w.params) mg (hidT s1.heap T) callerA [] s1 T := by
      refine ⟨rfl, md, fun b ob e => of_hidT e, Nat.le_of_eq (hidT_size _ _), trivial, fun b hb => ?_, hok, .of_eq hgn⟩
      cases (show b ∈ ([] : List Addr) from hb)
    have mods : ∃ o, (hidT s1.heap T).get? sysModules = some o := by
      obtain ⟨m2, hm2⟩ : ∃ m2, s1.heap.Ns sysModules m2 := let ⟨mm, z, _⟩ := (gr.T.seer hI).mods; ⟨mm, z⟩
      obtain ⟨o2, es2, ep2, ho2, hd2, _⟩ := hm2
      exact ⟨o2, keepD ho2 ⟨es2, ep2, hd2⟩⟩
    have run := (F _ inT (nsT gr.T.g) mods).go callerA [] s1 T ⟨[.ref a], []⟩ [.ref a] [.ref a] _ _ rfl hr e0 (hbind s1 (.ref a)) (.cons rfl .nil) (hsp (K w.params) T a ns hl hS)
    refine codeAny_mono run fun res t hq => ?_
    match res, hq with
    | .error e, hq => exact hq.elim
    | .ok .next, hq => exact hq.elim
    | .ok .brk, hq => exact hq.elim
    | .ok .cont, hq => exact hq.elim
    | .ok (.ret u), ⟨v, T', os, bare, un, hok', rr, qq⟩ =>
      obtain rfl : v = .bl true := qq
      obtain rfl : u = Value.bool true := rr
      refine ⟨rfl, OldK.of_keep fun b ob e => ?_, os, bare⟩
      match q : T b with
      | none => exact un.keep b ob e q (fun z => nomatch (show b ∈ ([] : List Addr) from z)) (fun z => nomatch z)
      | some u =>
        rcases only b with z | ⟨fo, xs, z⟩
        · rw [q] at z
          cases z
        · obtain ⟨e1, _⟩ := hok b _ z
          obtain ⟨e2, _⟩ := hok' b _ (un.frzs b fo _ z)
          rw [e] at e1
          cases e1
          exact e2
  match hk : (K w.params).lookup a with
  | some ob =>
    have e := KX a ob hk
    rw [ha] at e
    cases e
    refine main (fun _ => none) (fun _ => .inl rfl) (.inr ⟨_, vs.toArray, _, hk, rfl, rfl, rfl, ?_, ?_⟩) (fun b u z => nomatch (show (none : Option HO) = some u from z)) (fun b z => absurd rfl z) (fun z => absurd rfl z)
    · rw [List.size_toArray, lenV]
      exact nsz
    · simpa using rv
  | none =>
    have atA : ∀ b, b = a → (if b = a then some (HO.frz { cls := .type "list", data := .seq vs.toArray } (.lst (ns.map V.int))) else none) = some (HO.frz { cls := .type "list", data := .seq vs.toArray } (.lst (ns.map V.int))) := fun b hb => if_pos hb
    have offA : ∀ b, b ≠ a → (if b = a then some (HO.frz { cls := .type "list", data := .seq vs.toArray } (.lst (ns.map V.int))) else none) = none := fun b hb => if_neg hb
    refine main (fun b => if b = a then some (.frz { cls := .type "list", data := .seq vs.toArray } (.lst (ns.map V.int))) else none) (fun b => ?_) (.inl (.inr ⟨{ cls := .type "list", data := .seq vs.toArray }, atA a rfl⟩)) (fun b u z => ?_) (fun b z => ?_) fun _ => hk
    · by_cases hb : b = a
      · exact .inr ⟨_, _, atA b hb⟩
      · exact .inl (offA b hb)
    · by_cases hb : b = a
      · have z2 := (atA b hb).symm.trans z
        cases z2
        subst hb
        exact ⟨ha, by rw [List.length_map]; exact nsz, vs, _, rv, ha⟩
      · have z2 := (offA b hb).symm.trans z
        cases z2
    · by_cases hb : b = a
      · exact hb
      · exact absurd (offA b hb) z

end G

set_option Elab.async false
set_option linter.all false
set_option maxRecDepth 100000
set_option maxHeartbeats 4000000

/-! ## the error ParseError of the text: over ValueError, its own __init__ keeps number (after the guide's skeleton 42, for any base) -/
namespace OwnParseError
open PySem PySem.W PySem.Calls PyProof.Rows PySem.HandSPX
def iA (p1 p2 : Pos) : Arguments := { posonlyargs := [], args := [{ arg := "self", annotation := none, pos := p1 }, { arg := "number", annotation := none, pos := p2 }], vararg := none, kwonlyargs := [], kw_defaults := [], kwarg := none, defaults := [] }
def iB (q1 q2 q3 q4 : Pos) : List Stmt := [.Assign [.Attribute (.Name "self" q1) "number" q2] (.Name "number" q3) q4]
def iS : Scope := { kind := .function, names := [(PySem.Str.ofString "self", .local), (PySem.Str.ofString "number", .local)], isGenerator := false, isCoroutine := false, more := [] }
abbrev bmB : List Value := [.type "ValueError", .type "Exception", .type "BaseException", .type "object"]
structure Txt (K : Frag) (mg : Str → Option Value) (C fI : Addr) : Prop where
  gC : mg "ParseError" = some (.ref C)
  cls : ∃ nm q N bs bm sn sub ab col dd k0 k1 k2 k3 k5, K.lookup C = some (excClassObj nm q C N bs bm true sn sub ab col dd k0 k1 k2 k3 k5 "ValueError.__new__") ∧ excTail bmB bm = true
  ov : excOver K C bmB = true
  sa : findIn K (.ref C) "__setattr__" = some (some (.builtin "object.__setattr__"))
  ga : findIn K (.ref C) "__getattribute__" = some (some (.builtin "BaseException.__getattribute__"))
  gg : findIn K (.ref C) "__getattr__" = some none
  noN : findIn K (.ref C) "number" = some none
  tkN : takerIn K C "number" = some none
  iC : findIn K (.ref C) "__init__" = some (some (.ref fI))
  tC : typeIn K (.ref fI) = some (.type "function")
  kC : keepIn K (.ref C) = true
  exC : subIn K (.ref C) (.type "BaseException") = some true
  tyC : typeIn K (.ref C) = some (.type "type")
  hdC : hasDictIn K C = true
  te : exmOne K (.ref C) (.ref C) = some true
  fn : ∃ (oc : Value) (od : Option Addr) (doc pm : Value) (an : Option Addr) (cdv ct : Value) (osl : Array (Option Value)) (p1 p2 q1 q2 q3 q4 : Pos),
    K.lookup fI = some ⟨oc, od, .func (fnOf "__init__" "ParseError.__init__" (iA p1 p2) (iB q1 q2 q3 q4) iS .none .none doc pm an cdv ct), osl⟩ ∧ codeIn K cdv "ParseError.__init__" = true
theorem mk_txt {K : Frag} {h : Heap} {mg : Str → Option Value} {C fI : Addr} {nm q : Str} {N : Addr} {bs bm : List Value} {sn : List Str} {sub : List Value} {ab : Bool} {col : Option Bool} {dd : Option Addr} {k0 k1 k2 k3 k5 : Option Value}
    {oc : Value} {od : Option Addr} {doc pm : Value} {an : Option Addr} {cdv ct : Value} {osl : Array (Option Value)} {p1 p2 q1 q2 q3 q4 : Pos} (X : K.In h) (G : h.Ns mainGlobals mg)
    (gC : nsIn K mainGlobals "ParseError" = some (some (.ref C))) (cls : K.lookup C = some (excClassObj nm q C N bs bm true sn sub ab col dd k0 k1 k2 k3 k5 "ValueError.__new__")) (tl : excTail bmB bm = true)
    (ov : excOver K C bmB = true) (sa : findIn K (.ref C) "__setattr__" = some (some (.builtin "object.__setattr__"))) (ga : findIn K (.ref C) "__getattribute__" = some (some (.builtin "BaseException.__getattribute__")))
    (gg : findIn K (.ref C) "__getattr__" = some none) (noN : findIn K (.ref C) "number" = some none) (tkN : takerIn K C "number" = some none) (iC : findIn K (.ref C) "__init__" = some (some (.ref fI)))
    (tC : typeIn K (.ref fI) = some (.type "function")) (kC : keepIn K (.ref C) = true) (exC : subIn K (.ref C) (.type "BaseException") = some true) (tyC : typeIn K (.ref C) = some (.type "type")) (hdC : hasDictIn K C = true) (te : exmOne K (.ref C) (.ref C) = some true)
    (fn : K.lookup fI = some ⟨oc, od, .func (fnOf "__init__" "ParseError.__init__" (iA p1 p2) (iB q1 q2 q3 q4) iS .none .none doc pm an cdv ct), osl⟩) (cd : codeIn K cdv "ParseError.__init__" = true) : Txt K mg C fI :=
  ⟨mg_of X G gC, ⟨_, _, _, _, _, _, _, _, _, _, _, _, _, _, _, cls, tl⟩, ov, sa, ga, gg, noN, tkN, iC, tC, kC, exC, tyC, hdC, te, ⟨_, _, _, _, _, _, _, _, _, _, _, _, _, _, fn, cd⟩⟩
structure InitEnd (h h' : Heap) (x C dx t1 : Addr) (v : Value) : Prop where
  keep : ∀ b o, b ≠ x → h.get? b = some o → h'.get? b = some o
  obj : h'.get? x = some { cls := .ref C, dict := some dx, data := .fields #[.ref t1, .none, .none, .none, .bool false, .none] }
  dbig : h.objs.size ≤ dx
  dne : dx ≠ x
  ns : h'.Ns1 dx (fun y => if y = "number" then some v else none)
structure Made (h h' : Heap) (e C d : Addr) (v : Value) : Prop where
  keep : ∀ b o, h.get? b = some o → h'.get? b = some o
  new : h.objs.size ≤ e
  obj : ∃ oe vs, h'.get? e = some oe ∧ oe.cls = .ref C ∧ oe.dict = some d ∧ oe.data = .fields vs ∧ vs[1]? = some .none
  dbig : h.objs.size ≤ d
  dne : d ≠ e
  ns : h'.Ns1 d (fun y => if y = "number" then some v else none)
section
variable {prog : Program} {w : World} {A : Around} {E : Value → Shared → Prop} {R : Result → Shared → Prop} {s : Shared} {K : Frag} {mg : Str → Option Value} {C fI : Addr}
theorem init_run (T : Txt K mg C fI) {x t0 : Addr} {v : Value} (X : K.In s.heap) (lim : s.heap.NoLimit) (hx : s.heap.get? x = some (excO C t0)) (room : A.depth < recursionLimit)
    (hq : ∀ h' tk dx, InitEnd s.heap h' x C dx t0 v → R (.ok (.ret .none)) { s with heap := h', toks := tk }) :
    codeAny (model prog w) A (.call (.ref fI) ⟨[.ref x, v], []⟩) R s := by
  obtain ⟨oc, od, doc, pm, an, cdv, ct, osl, p1, p2, q1, q2, q3, q4, ho, hcd⟩ := T.fn
  refine Att.call_fn (binds := [("self", .ref x), ("number", v)]) X lim ho hcd room (BindsTo.of_eq (by first | rfl | with_unfolding_all rfl)) (by first | rfl | decide | with_unfolding_all rfl) (fun s₁ IC => ?_) rfl rfl rfl
  obtain ⟨h₁, tk₁, rfl⟩ := IC.toInCall.same
  have kp : ∀ b o, s.heap.get? b = some o → h₁.get? b = some o := IC.toInCall.keep
  have hn := IC.toInCall.ns
  have X₁ : K.In h₁ := X.keeps kp
  have hx₁ := kp _ _ hx
  show wpAny _ _ (execs _ _) _ _ _
  refine wpAny_execs_cons (plainObj_wpAny_Assign_Attribute ?_)
  refine G.ld_own (v := v) hn (by first | rfl | with_unfolding_all rfl | kernel_rfl) (G.ld_own (v := .ref x) hn (by first | rfl | with_unfolding_all rfl | kernel_rfl) ?_)
  refine set_plain X₁ (ox := excO C t0) (od := none) ⟨hx₁, rfl, rfl, trivial⟩ T.sa ?_
  refine G.first_store PySem.F.store_ValueError X₁ hx₁ T.ov T.tkN T.hdC fun h₃ tk₃ dx k₃ dn dne hx₃ hn₃ => ?_
  show wpAny _ _ (execs _ _) _ _ _
  have z : s.heap.objs.size < h₁.objs.size := hn.lt
  exact wpAny_execs_nil (hq h₃ tk₃ dx ⟨fun b o hb e => k₃ b o hb (kp b o e), hx₃, Nat.le_of_lt (Nat.lt_of_lt_of_le z dn), dne, hn₃⟩)
theorem made (T : Txt K mg C fI) {v : Value} (X : K.In s.heap) (lim : s.heap.NoLimit) (room : A.depth + 1 < recursionLimit)
    (hq : ∀ h' tk e d, Made s.heap h' e C d v → R (.ok (.ret (.ref e))) { s with heap := h', toks := tk }) :
    codeAny (model prog w) A (.call (.ref C) ⟨[v], []⟩) R s := by
  obtain ⟨nm, q, N, bs, bm, sn, sub, ab, col, dd, k0, k1, k2, k3, k5, hC, hbm⟩ := T.cls
  obtain ⟨hp, g, dr, tk, os⟩ := s
  have kp : ∀ b o, hp.get? b = some o → ((hp.push (kdv_tup [v])).push (excO C hp.objs.size)).get? b = some o := fun b o e => Heap.get?_push_of_some _ (Heap.get?_push_of_some _ e)
  have hget : ((hp.push (kdv_tup [v])).push (excO C hp.objs.size)).get? (hp.objs.size + 1) = some (excO C hp.objs.size) := by heap_get
  refine call_own PySem.F.excBase_ValueError (fun Y => excTail_contains Y bm hbm) (X _ _ hC) (looks_findIn X T.iC) (fun self => bind_fn X self T.tC) (by rw [sizeLine_eq]; exact (by decide : 1 ≤ 16777216)) ?_
  refine init_run (s := ⟨(hp.push (kdv_tup [v])).push (excO C hp.objs.size), g, dr, tk, os⟩) T (X.keeps kp) (lim.keeps kp) hget (show A.depth + 1 < recursionLimit from room) fun h' tk' dx ⟨k', hx, dn, dne, hns⟩ => ?_
  have old : ∀ b o, hp.get? b = some o → h'.get? b = some o := fun b o e => k' b o (Nat.ne_of_lt (Nat.lt_succ_of_lt (Heap.lt_size e))) (kp b o e)
  have big : hp.objs.size ≤ dx := by
    have q := dn
    have e1 : ((hp.push (kdv_tup [v])).push (excO C hp.objs.size)).objs.size = hp.objs.size + 1 + 1 := by rw [Heap.size_push, Heap.size_push]
    have q2 : ((hp.push (kdv_tup [v])).push (excO C hp.objs.size)).objs.size ≤ dx := q
    rw [e1] at q2
    exact Nat.le_trans (Nat.le_trans (Nat.le_succ _) (Nat.le_succ _)) q2
  exact ⟨rfl, hq h' tk' (hp.objs.size + 1) dx ⟨old, Nat.le_succ _, ⟨_, _, hx, rfl, rfl, rfl, rfl⟩, big, dne, hns⟩⟩
end
end OwnParseError
namespace OwnParseError
open PySem PySem.Spec PyProof.Rows L2
theorem relO {v : V} {v' : Value} (r : RelV v v') (f : Str) : RelO (List.lookup f [(("number" : Str), v)]) (if f = "number" then some v' else none) := by
  by_cases hw : f = "number"
  · subst hw
    rw [if_pos rfl, show List.lookup ("number" : Str) [(("number" : Str), v)] = some v by simp [List.lookup]]
    exact r
  · rw [if_neg hw]
    have qw : (f == ("number" : Str)) = false := by simpa using hw
    rw [show List.lookup f [(("number" : Str), v)] = none by simp [List.lookup, qw]]
    trivial
section
variable {X : Cx} {C fI : Addr}
/-- ParseError(e) -/
def tMk (C : Addr) (ta : TA) : L2.St → Hp → XK → Prop := fun σ H Q => ta σ H fun vs H1 => ∃ v, vs = [v] ∧ ∀ d, H1 d = none → Q (.ref C) (some d) (upd H1 d (.xd [(("number" : Str), v)]))
theorem pmk {a : Expr} {ta : TA} {p pos : Pos} {k : Nat} (T : OwnParseError.Txt X.K X.mg C fI) (hr : Room k X.A) (hg : Gl X "ParseError") (ha : PA X [a] ta)
    (he : starEach (a :: []) X.env = (false, eval a X.env) :: starEach [] X.env := by rfl) (hpl : (backTo pos (starEach [] X.env)).any (·.1) = false := by rfl) :
    PMk X (.Call (.Name "ParseError" p) [a] [] pos) (tMk C ta) := by
  intro pins s σ H Q I h
  refine wpAny_Call_Name_kw (ld_glob I hg T.gC ?_)
  refine PySem.W.callWith_K (h₀ := X.base) I.ok.mod.kin T.kC (thn (ha.run pos pins s σ H _ I h) fun us s1 ⟨vs, H1, I1, r1, v, ev, q1⟩ => ?_) he hpl
  subst ev
  refine ⟨I1.kIn, ?_⟩
  obtain ⟨v', rfl, rv⟩ := vals1 r1
  show wpAny _ _ (call (.ref C) [v']) _ _ _
  have lim := I1.nolimit
  obtain ⟨hp, g, dr, tk, os⟩ := s1
  refine wpAny_call (OwnParseError.made T I1.kIn lim (by have := hr.dp; omega) fun h' tk' e d M => ?_)
  show MkP X pins σ Q (.ref e) ⟨h', g, dr, tk', os⟩
  obtain ⟨oe, fv, hoe, hc, hd, hdat, h1⟩ := M.obj
  obtain ⟨G', g1, g2⟩ := restrict h' fun b => decide (b ≠ e)
  have gk : ∀ b, b ≠ e → G'.get? b = h'.get? b := fun b hb => g1 b (decide_eq_true hb)
  have ge : G'.get? e = none := g2 e (by simp)
  have old : ∀ b o, hp.get? b = some o → G'.get? b = some o := fun b o q => (gk b (Nat.ne_of_lt (Nat.lt_of_lt_of_le (Heap.lt_size q) M.new))).trans (M.keep b o q)
  have ob : ObjOk X.prog X.w (upd H1 d (.xd [(("number" : Str), v)])) G' d (.xd [(("number" : Str), v)]) := ⟨_, M.ns.at (fun o q => (gk d M.dne).trans q), fun f => relO rv f⟩
  have J : Inv X pins σ (upd H1 d (.xd [(("number" : Str), v)])) ⟨G', g, dr, tk', os⟩ := I1.laid (t' := tk') old M.dbig ob
  refine ⟨e, oe, fv, ⟨G', g, dr, tk', os⟩, _, .ref C, some d, rfl, J, fun b o q => ?_, ge, hoe, ⟨hc, hd⟩, hdat, h1, ?_, rfl, I1.bare, raises_own T.exC T.tyC, q1 d (I1.hok.fresh M.dbig)⟩
  · have q' : G'.get? b = some o := q
    by_cases hb : b = e
    · rw [hb, ge] at q'
      cases q'
    · exact (gk b hb).symm.trans q'
  · rw [upd_ne (Ne.symm M.dne)]
    exact I1.hok.fresh M.new
/-- ParseError(e) as a value -/
theorem pe_mkv {a : Expr} {ta : TA} {p pos : Pos} {k : Nat} (T : OwnParseError.Txt X.K X.mg C fI) (hr : Room k X.A) (hg : Gl X "ParseError") (ha : PA X [a] ta)
    (he : starEach (a :: []) X.env = (false, eval a X.env) :: starEach [] X.env := by rfl) (hpl : (backTo pos (starEach [] X.env)).any (·.1) = false := by rfl) :
    PE X (.Call (.Name "ParseError" p) [a] [] pos) (fun σ H Q => ta σ H fun vs H1 => ∃ v, vs = [v] ∧ ∀ d e, H1 d = none → H1 e = none → d ≠ e → Q (.ref e) (upd (upd H1 d (.xd [(("number" : Str), v)])) e (G.ExD C d e))) := by
  refine ⟨fun pins s σ H Q I h => wpAny_Call_Name_kw (ld_glob I hg T.gC ?_)⟩
  refine PySem.W.callWith_K (h₀ := X.base) I.ok.mod.kin T.kC (thn (ha.run pos pins s σ H _ I h) fun us s1 ⟨vs, H1, I1, r1, v, ev, q1⟩ => ?_) he hpl
  subst ev
  obtain ⟨v', rfl, rv⟩ := vals1 r1
  refine ⟨I1.kIn, ?_⟩
  have lim := I1.nolimit
  obtain ⟨hp, g, dr, tk, os⟩ := s1
  refine wpAny_call (OwnParseError.made T I1.kIn lim (by have := hr.dp; omega) fun h' tk' e d M => ?_)
  obtain ⟨oe, fv, hoe, hc, hd, hdat, h1⟩ := M.obj
  obtain ⟨G', g1, g2⟩ := restrict h' fun b => decide (b ≠ e)
  have gk : ∀ b, b ≠ e → G'.get? b = h'.get? b := fun b hb => g1 b (decide_eq_true hb)
  have ge : G'.get? e = none := g2 e (by simp)
  have J : Inv X pins σ (upd H1 d (.xd [(("number" : Str), v)])) ⟨G', g, dr, tk', os⟩ := I1.laid (t' := tk') (fun b o q => (gk b (Nat.ne_of_lt (Nat.lt_of_lt_of_le (Heap.lt_size q) M.new))).trans (M.keep b o q)) M.dbig ⟨_, M.ns.at (fun o q => (gk d M.dne).trans q), fun f => relO rv f⟩
  have He : H1 e = none := I1.hok.fresh M.new
  have He2 : upd H1 d (.xd [(("number" : Str), v)]) e = none := by rw [upd_ne (Ne.symm M.dne)]; exact He
  have J2 : Inv X pins σ (upd (upd H1 d (.xd [(("number" : Str), v)])) e (G.ExD C d e)) ⟨h', g, dr, tk', os⟩ := J.laidN (t' := tk') (fun b u q => by
      by_cases hb : b = e
      · rw [hb, show G'.get? e = none from ge] at q
        cases q
      · exact (gk b hb).symm.trans q) ge He2 ⟨⟨oe, fv, hoe, ⟨hc, hd⟩, hdat⟩, ⟨oe, hoe⟩, fun _ _ ⟨o, v, q, r⟩ k => ⟨o, v, k o q, r⟩⟩
  exact ⟨.ref e, _, J2, rfl, q1 d e (I1.hok.fresh M.dbig) He M.dne⟩
/-- n.number of such a value -/
theorem pe_fldv {e : Expr} {te : TE} {pos : Pos} (T : OwnParseError.Txt X.K X.mg C fI) (he : PE X e te) (hb : attributeBase e "number" X.env (eval e X.env) = eval e X.env := by rfl) :
    PE X (.Attribute e "number" pos) (fun σ H Q => te σ H fun x H1 => ∃ (a dd : Addr) (v : V), x = .ref a ∧ G.IsE H1 a C (some dd) ∧ H1 dd = some (.xd [(("number" : Str), v)]) ∧ Q v H1) := by
  refine ⟨fun pins s σ H Q I h => attr_of hb (thn (he.run pins s σ H _ I h) fun u s1 ⟨x, H1, I1, rx, a, dd, v, ex, ie, ea, q⟩ => ?_)⟩
  subst ex
  obtain rfl : u = Value.ref a := rx
  obtain ⟨φ, hφ, kφ⟩ := ie
  obtain ⟨z, _, _⟩ := I1.hok a _ hφ
  obtain ⟨oe, vs, ho1, hz, hdt⟩ := kφ _ z
  obtain ⟨mA, hns, hr⟩ : ObjOk X.prog X.w H1 s1.heap dd (.xd [(("number" : Str), v)]) := I1.hok dd _ ea
  obtain ⟨od, ho, hl⟩ := lookIn_ns hns
  obtain ⟨u, hu, ru⟩ := RelO.some_of (v := v) (o := mA "number") (by rw [← show List.lookup ("number" : Str) [(("number" : Str), v)] = some v by simp [List.lookup]]; exact hr "number")
  have J : PySem.W.InstAt s1.heap a oe C (some od) := ⟨ho1, hz.1, by unfold PySem.W.notCls; rw [hdt] <;> rfl, by rw [hz.2]; exact ho⟩
  exact PySem.HandSPX.exc_get I1.kIn J T.ga T.gg T.exC (PySem.W.findObj_own T.hdC T.noN rfl (by rw [hl, hu])) (handed_of ru) ⟨v, H1, I1.tok _, ru, q⟩
/-- n.number, n the exception that the suite holds at a -/
def tFld (C : Addr) (a : Addr) (cls : Value) (d : Option Addr) (te : TE) : TE := fun σ H Q => te σ H fun x H1 => x = .ref a ∧ cls = .ref C ∧ ∃ (dd : Addr) (v : V), d = some dd ∧ H1 dd = some (.xd [(("number" : Str), v)]) ∧ Q v H1
theorem pe_fld {a : Addr} {oe : Obj} {cls : Value} {d : Option Addr} {pn : List (Addr × Obj)} {e : Expr} {te : TE} {pos : Pos} (T : OwnParseError.Txt X.K X.mg C fI) (hz : Zc cls d oe) (hf : ∃ vs, oe.data = .fields vs) (he : PE (X.suite a ((a, oe) :: pn)) e te)
    (hb : attributeBase e "number" X.env (eval e X.env) = eval e X.env := by rfl) :
    PE (X.suite a ((a, oe) :: pn)) (.Attribute e "number" pos) (tFld C a cls d te) := by
  refine ⟨fun pins s σ H Q I h => ?_⟩
  refine attr_of hb (thn (he.run pins s σ H _ I h) fun u s1 ⟨x, H1, I1, rx, ex, ec, dd, v, ed, ea, q⟩ => ?_)
  subst ex ec ed
  obtain rfl : u = Value.ref a := rx
  obtain ⟨ha, _⟩ := I1.pin (a, oe) (List.mem_append_left _ List.mem_cons_self)
  obtain ⟨vs, hd⟩ := hf
  have hx : ObjOk X.prog X.w H1 s1.heap dd (.xd [(("number" : Str), v)]) := I1.hok dd _ ea
  obtain ⟨mA, hns, hr⟩ := hx
  obtain ⟨od, ho, hl⟩ := lookIn_ns hns
  have l : List.lookup ("number" : Str) [(("number" : Str), v)] = some v := by simp [List.lookup]
  obtain ⟨u, hu, ru⟩ := RelO.some_of (v := v) (o := mA "number") (by rw [← l]; exact hr "number")
  have J : PySem.W.InstAt s1.heap a oe C (some od) := ⟨ha, hz.1, by unfold PySem.W.notCls; rw [hd] <;> rfl, by rw [hz.2]; exact ho⟩
  exact PySem.HandSPX.exc_get I1.kIn J T.ga T.gg T.exC (PySem.W.findObj_own T.hdC T.noN rfl (by rw [hl, hu])) (handed_of ru) ⟨v, H1, I1.tok _, ru, q⟩
end
end OwnParseError

/-! ## the error UnknownName of the text: over KeyError, its own __init__ keeps word (after the guide's skeleton 42, for any base) -/
namespace OwnUnknownName
open PySem PySem.W PySem.Calls PyProof.Rows PySem.HandSPX
def iA (p1 p2 : Pos) : Arguments := { posonlyargs := [], args := [{ arg := "self", annotation := none, pos := p1 }, { arg := "word", annotation := none, pos := p2 }], vararg := none, kwonlyargs := [], kw_defaults := [], kwarg := none, defaults := [] }
def iB (q1 q2 q3 q4 : Pos) : List Stmt := [.Assign [.Attribute (.Name "self" q1) "word" q2] (.Name "word" q3) q4]
def iS : Scope := { kind := .function, names := [(PySem.Str.ofString "self", .local), (PySem.Str.ofString "word", .local)], isGenerator := false, isCoroutine := false, more := [] }
abbrev bmB : List Value := [.type "KeyError", .type "LookupError", .type "Exception", .type "BaseException", .type "object"]
structure Txt (K : Frag) (mg : Str → Option Value) (C fI : Addr) : Prop where
  gC : mg "UnknownName" = some (.ref C)
  cls : ∃ nm q N bs bm sn sub ab col dd k0 k1 k2 k3 k5, K.lookup C = some (excClassObj nm q C N bs bm true sn sub ab col dd k0 k1 k2 k3 k5 "LookupError.__new__") ∧ excTail bmB bm = true
  ov : excOver K C bmB = true
  sa : findIn K (.ref C) "__setattr__" = some (some (.builtin "object.__setattr__"))
  ga : findIn K (.ref C) "__getattribute__" = some (some (.builtin "BaseException.__getattribute__"))
  gg : findIn K (.ref C) "__getattr__" = some none
  noN : findIn K (.ref C) "word" = some none
  tkN : takerIn K C "word" = some none
  iC : findIn K (.ref C) "__init__" = some (some (.ref fI))
  tC : typeIn K (.ref fI) = some (.type "function")
  kC : keepIn K (.ref C) = true
  exC : subIn K (.ref C) (.type "BaseException") = some true
  tyC : typeIn K (.ref C) = some (.type "type")
  hdC : hasDictIn K C = true
  te : exmOne K (.ref C) (.ref C) = some true
  fn : ∃ (oc : Value) (od : Option Addr) (doc pm : Value) (an : Option Addr) (cdv ct : Value) (osl : Array (Option Value)) (p1 p2 q1 q2 q3 q4 : Pos),
    K.lookup fI = some ⟨oc, od, .func (fnOf "__init__" "UnknownName.__init__" (iA p1 p2) (iB q1 q2 q3 q4) iS .none .none doc pm an cdv ct), osl⟩ ∧ codeIn K cdv "UnknownName.__init__" = true
theorem mk_txt {K : Frag} {h : Heap} {mg : Str → Option Value} {C fI : Addr} {nm q : Str} {N : Addr} {bs bm : List Value} {sn : List Str} {sub : List Value} {ab : Bool} {col : Option Bool} {dd : Option Addr} {k0 k1 k2 k3 k5 : Option Value}
    {oc : Value} {od : Option Addr} {doc pm : Value} {an : Option Addr} {cdv ct : Value} {osl : Array (Option Value)} {p1 p2 q1 q2 q3 q4 : Pos} (X : K.In h) (G : h.Ns mainGlobals mg)
    (gC : nsIn K mainGlobals "UnknownName" = some (some (.ref C))) (cls : K.lookup C = some (excClassObj nm q C N bs bm true sn sub ab col dd k0 k1 k2 k3 k5 "LookupError.__new__")) (tl : excTail bmB bm = true)
    (ov : excOver K C bmB = true) (sa : findIn K (.ref C) "__setattr__" = some (some (.builtin "object.__setattr__"))) (ga : findIn K (.ref C) "__getattribute__" = some (some (.builtin "BaseException.__getattribute__")))
    (gg : findIn K (.ref C) "__getattr__" = some none) (noN : findIn K (.ref C) "word" = some none) (tkN : takerIn K C "word" = some none) (iC : findIn K (.ref C) "__init__" = some (some (.ref fI)))
    (tC : typeIn K (.ref fI) = some (.type "function")) (kC : keepIn K (.ref C) = true) (exC : subIn K (.ref C) (.type "BaseException") = some true) (tyC : typeIn K (.ref C) = some (.type "type")) (hdC : hasDictIn K C = true) (te : exmOne K (.ref C) (.ref C) = some true)
    (fn : K.lookup fI = some ⟨oc, od, .func (fnOf "__init__" "UnknownName.__init__" (iA p1 p2) (iB q1 q2 q3 q4) iS .none .none doc pm an cdv ct), osl⟩) (cd : codeIn K cdv "UnknownName.__init__" = true) : Txt K mg C fI :=
  ⟨mg_of X G gC, ⟨_, _, _, _, _, _, _, _, _, _, _, _, _, _, _, cls, tl⟩, ov, sa, ga, gg, noN, tkN, iC, tC, kC, exC, tyC, hdC, te, ⟨_, _, _, _, _, _, _, _, _, _, _, _, _, _, fn, cd⟩⟩
structure InitEnd (h h' : Heap) (x C dx t1 : Addr) (v : Value) : Prop where
  keep : ∀ b o, b ≠ x → h.get? b = some o → h'.get? b = some o
  obj : h'.get? x = some { cls := .ref C, dict := some dx, data := .fields #[.ref t1, .none, .none, .none, .bool false, .none] }
  dbig : h.objs.size ≤ dx
  dne : dx ≠ x
  ns : h'.Ns1 dx (fun y => if y = "word" then some v else none)
structure Made (h h' : Heap) (e C d : Addr) (v : Value) : Prop where
  keep : ∀ b o, h.get? b = some o → h'.get? b = some o
  new : h.objs.size ≤ e
  obj : ∃ oe vs, h'.get? e = some oe ∧ oe.cls = .ref C ∧ oe.dict = some d ∧ oe.data = .fields vs ∧ vs[1]? = some .none
  dbig : h.objs.size ≤ d
  dne : d ≠ e
  ns : h'.Ns1 d (fun y => if y = "word" then some v else none)
section
variable {prog : Program} {w : World} {A : Around} {E : Value → Shared → Prop} {R : Result → Shared → Prop} {s : Shared} {K : Frag} {mg : Str → Option Value} {C fI : Addr}
theorem init_run (T : Txt K mg C fI) {x t0 : Addr} {v : Value} (X : K.In s.heap) (lim : s.heap.NoLimit) (hx : s.heap.get? x = some (excO C t0)) (room : A.depth < recursionLimit)
    (hq : ∀ h' tk dx, InitEnd s.heap h' x C dx t0 v → R (.ok (.ret .none)) { s with heap := h', toks := tk }) :
    codeAny (model prog w) A (.call (.ref fI) ⟨[.ref x, v], []⟩) R s := by
  obtain ⟨oc, od, doc, pm, an, cdv, ct, osl, p1, p2, q1, q2, q3, q4, ho, hcd⟩ := T.fn
  refine Att.call_fn (binds := [("self", .ref x), ("word", v)]) X lim ho hcd room (BindsTo.of_eq (by first | rfl | with_unfolding_all rfl)) (by first | rfl | decide | with_unfolding_all rfl) (fun s₁ IC => ?_) rfl rfl rfl
  obtain ⟨h₁, tk₁, rfl⟩ := IC.toInCall.same
  have kp : ∀ b o, s.heap.get? b = some o → h₁.get? b = some o := IC.toInCall.keep
  have hn := IC.toInCall.ns
  have X₁ : K.In h₁ := X.keeps kp
  have hx₁ := kp _ _ hx
  show wpAny _ _ (execs _ _) _ _ _
  refine wpAny_execs_cons (plainObj_wpAny_Assign_Attribute ?_)
  refine G.ld_own (v := v) hn (by first | rfl | with_unfolding_all rfl | kernel_rfl) (G.ld_own (v := .ref x) hn (by first | rfl | with_unfolding_all rfl | kernel_rfl) ?_)
  refine set_plain X₁ (ox := excO C t0) (od := none) ⟨hx₁, rfl, rfl, trivial⟩ T.sa ?_
  refine G.first_store PySem.KerrX.storeK X₁ hx₁ T.ov T.tkN T.hdC fun h₃ tk₃ dx k₃ dn dne hx₃ hn₃ => ?_
  show wpAny _ _ (execs _ _) _ _ _
  have z : s.heap.objs.size < h₁.objs.size := hn.lt
  exact wpAny_execs_nil (hq h₃ tk₃ dx ⟨fun b o hb e => k₃ b o hb (kp b o e), hx₃, Nat.le_of_lt (Nat.lt_of_lt_of_le z dn), dne, hn₃⟩)
theorem made (T : Txt K mg C fI) {v : Value} (X : K.In s.heap) (lim : s.heap.NoLimit) (room : A.depth + 1 < recursionLimit)
    (hq : ∀ h' tk e d, Made s.heap h' e C d v → R (.ok (.ret (.ref e))) { s with heap := h', toks := tk }) :
    codeAny (model prog w) A (.call (.ref C) ⟨[v], []⟩) R s := by
  obtain ⟨nm, q, N, bs, bm, sn, sub, ab, col, dd, k0, k1, k2, k3, k5, hC, hbm⟩ := T.cls
  obtain ⟨hp, g, dr, tk, os⟩ := s
  have kp : ∀ b o, hp.get? b = some o → ((hp.push (kdv_tup [v])).push (excO C hp.objs.size)).get? b = some o := fun b o e => Heap.get?_push_of_some _ (Heap.get?_push_of_some _ e)
  have hget : ((hp.push (kdv_tup [v])).push (excO C hp.objs.size)).get? (hp.objs.size + 1) = some (excO C hp.objs.size) := by heap_get
  refine PySem.KerrX.mk2 PySem.F.excBase_LookupError (PySem.KerrX.aboveK fun Y => excTail_contains Y bm hbm) (X _ _ hC) (looks_findIn X T.iC) (fun self => bind_fn X self T.tC) (by rw [sizeLine_eq]; exact (by decide : 1 ≤ 16777216)) ?_
  refine init_run (s := ⟨(hp.push (kdv_tup [v])).push (excO C hp.objs.size), g, dr, tk, os⟩) T (X.keeps kp) (lim.keeps kp) hget (show A.depth + 1 < recursionLimit from room) fun h' tk' dx ⟨k', hx, dn, dne, hns⟩ => ?_
  have old : ∀ b o, hp.get? b = some o → h'.get? b = some o := fun b o e => k' b o (Nat.ne_of_lt (Nat.lt_succ_of_lt (Heap.lt_size e))) (kp b o e)
  have big : hp.objs.size ≤ dx := by
    have q := dn
    have e1 : ((hp.push (kdv_tup [v])).push (excO C hp.objs.size)).objs.size = hp.objs.size + 1 + 1 := by rw [Heap.size_push, Heap.size_push]
    have q2 : ((hp.push (kdv_tup [v])).push (excO C hp.objs.size)).objs.size ≤ dx := q
    rw [e1] at q2
    exact Nat.le_trans (Nat.le_trans (Nat.le_succ _) (Nat.le_succ _)) q2
  exact ⟨rfl, hq h' tk' (hp.objs.size + 1) dx ⟨old, Nat.le_succ _, ⟨_, _, hx, rfl, rfl, rfl, rfl⟩, big, dne, hns⟩⟩
end
end OwnUnknownName
namespace OwnUnknownName
open PySem PySem.Spec PyProof.Rows L2
theorem relO {v : V} {v' : Value} (r : RelV v v') (f : Str) : RelO (List.lookup f [(("word" : Str), v)]) (if f = "word" then some v' else none) := by
  by_cases hw : f = "word"
  · subst hw
    rw [if_pos rfl, show List.lookup ("word" : Str) [(("word" : Str), v)] = some v by simp [List.lookup]]
    exact r
  · rw [if_neg hw]
    have qw : (f == ("word" : Str)) = false := by simpa using hw
    rw [show List.lookup f [(("word" : Str), v)] = none by simp [List.lookup, qw]]
    trivial
section
variable {X : Cx} {C fI : Addr}
/-- UnknownName(e) -/
def tMk (C : Addr) (ta : TA) : L2.St → Hp → XK → Prop := fun σ H Q => ta σ H fun vs H1 => ∃ v, vs = [v] ∧ ∀ d, H1 d = none → Q (.ref C) (some d) (upd H1 d (.xd [(("word" : Str), v)]))
theorem pmk {a : Expr} {ta : TA} {p pos : Pos} {k : Nat} (T : OwnUnknownName.Txt X.K X.mg C fI) (hr : Room k X.A) (hg : Gl X "UnknownName") (ha : PA X [a] ta)
    (he : starEach (a :: []) X.env = (false, eval a X.env) :: starEach [] X.env := by rfl) (hpl : (backTo pos (starEach [] X.env)).any (·.1) = false := by rfl) :
    PMk X (.Call (.Name "UnknownName" p) [a] [] pos) (tMk C ta) := by
  intro pins s σ H Q I h
  refine wpAny_Call_Name_kw (ld_glob I hg T.gC ?_)
  refine PySem.W.callWith_K (h₀ := X.base) I.ok.mod.kin T.kC (thn (ha.run pos pins s σ H _ I h) fun us s1 ⟨vs, H1, I1, r1, v, ev, q1⟩ => ?_) he hpl
  subst ev
  refine ⟨I1.kIn, ?_⟩
  obtain ⟨v', rfl, rv⟩ := vals1 r1
  show wpAny _ _ (call (.ref C) [v']) _ _ _
  have lim := I1.nolimit
  obtain ⟨hp, g, dr, tk, os⟩ := s1
  refine wpAny_call (OwnUnknownName.made T I1.kIn lim (by have := hr.dp; omega) fun h' tk' e d M => ?_)
  show MkP X pins σ Q (.ref e) ⟨h', g, dr, tk', os⟩
  obtain ⟨oe, fv, hoe, hc, hd, hdat, h1⟩ := M.obj
  obtain ⟨G', g1, g2⟩ := restrict h' fun b => decide (b ≠ e)
  have gk : ∀ b, b ≠ e → G'.get? b = h'.get? b := fun b hb => g1 b (decide_eq_true hb)
  have ge : G'.get? e = none := g2 e (by simp)
  have old : ∀ b o, hp.get? b = some o → G'.get? b = some o := fun b o q => (gk b (Nat.ne_of_lt (Nat.lt_of_lt_of_le (Heap.lt_size q) M.new))).trans (M.keep b o q)
  have ob : ObjOk X.prog X.w (upd H1 d (.xd [(("word" : Str), v)])) G' d (.xd [(("word" : Str), v)]) := ⟨_, M.ns.at (fun o q => (gk d M.dne).trans q), fun f => relO rv f⟩
  have J : Inv X pins σ (upd H1 d (.xd [(("word" : Str), v)])) ⟨G', g, dr, tk', os⟩ := I1.laid (t' := tk') old M.dbig ob
  refine ⟨e, oe, fv, ⟨G', g, dr, tk', os⟩, _, .ref C, some d, rfl, J, fun b o q => ?_, ge, hoe, ⟨hc, hd⟩, hdat, h1, ?_, rfl, I1.bare, raises_own T.exC T.tyC, q1 d (I1.hok.fresh M.dbig)⟩
  · have q' : G'.get? b = some o := q
    by_cases hb : b = e
    · rw [hb, ge] at q'
      cases q'
    · exact (gk b hb).symm.trans q'
  · rw [upd_ne (Ne.symm M.dne)]
    exact I1.hok.fresh M.new
/-- UnknownName(e) as a value -/
theorem pe_mkv {a : Expr} {ta : TA} {p pos : Pos} {k : Nat} (T : OwnUnknownName.Txt X.K X.mg C fI) (hr : Room k X.A) (hg : Gl X "UnknownName") (ha : PA X [a] ta)
    (he : starEach (a :: []) X.env = (false, eval a X.env) :: starEach [] X.env := by rfl) (hpl : (backTo pos (starEach [] X.env)).any (·.1) = false := by rfl) :
    PE X (.Call (.Name "UnknownName" p) [a] [] pos) (fun σ H Q => ta σ H fun vs H1 => ∃ v, vs = [v] ∧ ∀ d e, H1 d = none → H1 e = none → d ≠ e → Q (.ref e) (upd (upd H1 d (.xd [(("word" : Str), v)])) e (G.ExD C d e))) := by
  refine ⟨fun pins s σ H Q I h => wpAny_Call_Name_kw (ld_glob I hg T.gC ?_)⟩
  refine PySem.W.callWith_K (h₀ := X.base) I.ok.mod.kin T.kC (thn (ha.run pos pins s σ H _ I h) fun us s1 ⟨vs, H1, I1, r1, v, ev, q1⟩ => ?_) he hpl
  subst ev
  obtain ⟨v', rfl, rv⟩ := vals1 r1
  refine ⟨I1.kIn, ?_⟩
  have lim := I1.nolimit
  obtain ⟨hp, g, dr, tk, os⟩ := s1
  refine wpAny_call (OwnUnknownName.made T I1.kIn lim (by have := hr.dp; omega) fun h' tk' e d M => ?_)
  obtain ⟨oe, fv, hoe, hc, hd, hdat, h1⟩ := M.obj
  obtain ⟨G', g1, g2⟩ := restrict h' fun b => decide (b ≠ e)
  have gk : ∀ b, b ≠ e → G'.get? b = h'.get? b := fun b hb => g1 b (decide_eq_true hb)
  have ge : G'.get? e = none := g2 e (by simp)
  have J : Inv X pins σ (upd H1 d (.xd [(("word" : Str), v)])) ⟨G', g, dr, tk', os⟩ := I1.laid (t' := tk') (fun b o q => (gk b (Nat.ne_of_lt (Nat.lt_of_lt_of_le (Heap.lt_size q) M.new))).trans (M.keep b o q)) M.dbig ⟨_, M.ns.at (fun o q => (gk d M.dne).trans q), fun f => relO rv f⟩
  have He : H1 e = none := I1.hok.fresh M.new
  have He2 : upd H1 d (.xd [(("word" : Str), v)]) e = none := by rw [upd_ne (Ne.symm M.dne)]; exact He
  have J2 : Inv X pins σ (upd (upd H1 d (.xd [(("word" : Str), v)])) e (G.ExD C d e)) ⟨h', g, dr, tk', os⟩ := J.laidN (t' := tk') (fun b u q => by
      by_cases hb : b = e
      · rw [hb, show G'.get? e = none from ge] at q
        cases q
      · exact (gk b hb).symm.trans q) ge He2 ⟨⟨oe, fv, hoe, ⟨hc, hd⟩, hdat⟩, ⟨oe, hoe⟩, fun _ _ ⟨o, v, q, r⟩ k => ⟨o, v, k o q, r⟩⟩
  exact ⟨.ref e, _, J2, rfl, q1 d e (I1.hok.fresh M.dbig) He M.dne⟩
/-- n.word of such a value -/
theorem pe_fldv {e : Expr} {te : TE} {pos : Pos} (T : OwnUnknownName.Txt X.K X.mg C fI) (he : PE X e te) (hb : attributeBase e "word" X.env (eval e X.env) = eval e X.env := by rfl) :
    PE X (.Attribute e "word" pos) (fun σ H Q => te σ H fun x H1 => ∃ (a dd : Addr) (v : V), x = .ref a ∧ G.IsE H1 a C (some dd) ∧ H1 dd = some (.xd [(("word" : Str), v)]) ∧ Q v H1) := by
  refine ⟨fun pins s σ H Q I h => attr_of hb (thn (he.run pins s σ H _ I h) fun u s1 ⟨x, H1, I1, rx, a, dd, v, ex, ie, ea, q⟩ => ?_)⟩
  subst ex
  obtain rfl : u = Value.ref a := rx
  obtain ⟨φ, hφ, kφ⟩ := ie
  obtain ⟨z, _, _⟩ := I1.hok a _ hφ
  obtain ⟨oe, vs, ho1, hz, hdt⟩ := kφ _ z
  obtain ⟨mA, hns, hr⟩ : ObjOk X.prog X.w H1 s1.heap dd (.xd [(("word" : Str), v)]) := I1.hok dd _ ea
  obtain ⟨od, ho, hl⟩ := lookIn_ns hns
  obtain ⟨u, hu, ru⟩ := RelO.some_of (v := v) (o := mA "word") (by rw [← show List.lookup ("word" : Str) [(("word" : Str), v)] = some v by simp [List.lookup]]; exact hr "word")
  have J : PySem.W.InstAt s1.heap a oe C (some od) := ⟨ho1, hz.1, by unfold PySem.W.notCls; rw [hdt] <;> rfl, by rw [hz.2]; exact ho⟩
  exact PySem.HandSPX.exc_get I1.kIn J T.ga T.gg T.exC (PySem.W.findObj_own T.hdC T.noN rfl (by rw [hl, hu])) (handed_of ru) ⟨v, H1, I1.tok _, ru, q⟩
/-- n.word, n the exception that the suite holds at a -/
def tFld (C : Addr) (a : Addr) (cls : Value) (d : Option Addr) (te : TE) : TE := fun σ H Q => te σ H fun x H1 => x = .ref a ∧ cls = .ref C ∧ ∃ (dd : Addr) (v : V), d = some dd ∧ H1 dd = some (.xd [(("word" : Str), v)]) ∧ Q v H1
theorem pe_fld {a : Addr} {oe : Obj} {cls : Value} {d : Option Addr} {pn : List (Addr × Obj)} {e : Expr} {te : TE} {pos : Pos} (T : OwnUnknownName.Txt X.K X.mg C fI) (hz : Zc cls d oe) (hf : ∃ vs, oe.data = .fields vs) (he : PE (X.suite a ((a, oe) :: pn)) e te)
    (hb : attributeBase e "word" X.env (eval e X.env) = eval e X.env := by rfl) :
    PE (X.suite a ((a, oe) :: pn)) (.Attribute e "word" pos) (tFld C a cls d te) := by
  refine ⟨fun pins s σ H Q I h => ?_⟩
  refine attr_of hb (thn (he.run pins s σ H _ I h) fun u s1 ⟨x, H1, I1, rx, ex, ec, dd, v, ed, ea, q⟩ => ?_)
  subst ex ec ed
  obtain rfl : u = Value.ref a := rx
  obtain ⟨ha, _⟩ := I1.pin (a, oe) (List.mem_append_left _ List.mem_cons_self)
  obtain ⟨vs, hd⟩ := hf
  have hx : ObjOk X.prog X.w H1 s1.heap dd (.xd [(("word" : Str), v)]) := I1.hok dd _ ea
  obtain ⟨mA, hns, hr⟩ := hx
  obtain ⟨od, ho, hl⟩ := lookIn_ns hns
  have l : List.lookup ("word" : Str) [(("word" : Str), v)] = some v := by simp [List.lookup]
  obtain ⟨u, hu, ru⟩ := RelO.some_of (v := v) (o := mA "word") (by rw [← l]; exact hr "word")
  have J : PySem.W.InstAt s1.heap a oe C (some od) := ⟨ha, hz.1, by unfold PySem.W.notCls; rw [hd] <;> rfl, by rw [hz.2]; exact ho⟩
  exact PySem.HandSPX.exc_get I1.kIn J T.ga T.gg T.exC (PySem.W.findObj_own T.hdC T.noN rfl (by rw [hl, hu])) (handed_of ru) ⟨v, H1, I1.tok _, ru, q⟩
end
end OwnUnknownName

/-! ## the error EmptySequence of the text: over LookupError, its own __init__ keeps tried (after the guide's skeleton 42, for any base) -/
namespace OwnEmptySequence
open PySem PySem.W PySem.Calls PyProof.Rows PySem.HandSPX
def iA (p1 p2 : Pos) : Arguments := { posonlyargs := [], args := [{ arg := "self", annotation := none, pos := p1 }, { arg := "tried", annotation := none, pos := p2 }], vararg := none, kwonlyargs := [], kw_defaults := [], kwarg := none, defaults := [] }
def iB (q1 q2 q3 q4 : Pos) : List Stmt := [.Assign [.Attribute (.Name "self" q1) "tried" q2] (.Name "tried" q3) q4]
def iS : Scope := { kind := .function, names := [(PySem.Str.ofString "self", .local), (PySem.Str.ofString "tried", .local)], isGenerator := false, isCoroutine := false, more := [] }
abbrev bmB : List Value := [.type "LookupError", .type "Exception", .type "BaseException", .type "object"]
structure Txt (K : Frag) (mg : Str → Option Value) (C fI : Addr) : Prop where
  gC : mg "EmptySequence" = some (.ref C)
  cls : ∃ nm q N bs bm sn sub ab col dd k0 k1 k2 k3 k5, K.lookup C = some (excClassObj nm q C N bs bm true sn sub ab col dd k0 k1 k2 k3 k5 "LookupError.__new__") ∧ excTail bmB bm = true
  ov : excOver K C bmB = true
  sa : findIn K (.ref C) "__setattr__" = some (some (.builtin "object.__setattr__"))
  ga : findIn K (.ref C) "__getattribute__" = some (some (.builtin "BaseException.__getattribute__"))
  gg : findIn K (.ref C) "__getattr__" = some none
  noN : findIn K (.ref C) "tried" = some none
  tkN : takerIn K C "tried" = some none
  iC : findIn K (.ref C) "__init__" = some (some (.ref fI))
  tC : typeIn K (.ref fI) = some (.type "function")
  kC : keepIn K (.ref C) = true
  exC : subIn K (.ref C) (.type "BaseException") = some true
  tyC : typeIn K (.ref C) = some (.type "type")
  hdC : hasDictIn K C = true
  te : exmOne K (.ref C) (.ref C) = some true
  fn : ∃ (oc : Value) (od : Option Addr) (doc pm : Value) (an : Option Addr) (cdv ct : Value) (osl : Array (Option Value)) (p1 p2 q1 q2 q3 q4 : Pos),
    K.lookup fI = some ⟨oc, od, .func (fnOf "__init__" "EmptySequence.__init__" (iA p1 p2) (iB q1 q2 q3 q4) iS .none .none doc pm an cdv ct), osl⟩ ∧ codeIn K cdv "EmptySequence.__init__" = true
theorem mk_txt {K : Frag} {h : Heap} {mg : Str → Option Value} {C fI : Addr} {nm q : Str} {N : Addr} {bs bm : List Value} {sn : List Str} {sub : List Value} {ab : Bool} {col : Option Bool} {dd : Option Addr} {k0 k1 k2 k3 k5 : Option Value}
    {oc : Value} {od : Option Addr} {doc pm : Value} {an : Option Addr} {cdv ct : Value} {osl : Array (Option Value)} {p1 p2 q1 q2 q3 q4 : Pos} (X : K.In h) (G : h.Ns mainGlobals mg)
    (gC : nsIn K mainGlobals "EmptySequence" = some (some (.ref C))) (cls : K.lookup C = some (excClassObj nm q C N bs bm true sn sub ab col dd k0 k1 k2 k3 k5 "LookupError.__new__")) (tl : excTail bmB bm = true)
    (ov : excOver K C bmB = true) (sa : findIn K (.ref C) "__setattr__" = some (some (.builtin "object.__setattr__"))) (ga : findIn K (.ref C) "__getattribute__" = some (some (.builtin "BaseException.__getattribute__")))
    (gg : findIn K (.ref C) "__getattr__" = some none) (noN : findIn K (.ref C) "tried" = some none) (tkN : takerIn K C "tried" = some none) (iC : findIn K (.ref C) "__init__" = some (some (.ref fI)))
    (tC : typeIn K (.ref fI) = some (.type "function")) (kC : keepIn K (.ref C) = true) (exC : subIn K (.ref C) (.type "BaseException") = some true) (tyC : typeIn K (.ref C) = some (.type "type")) (hdC : hasDictIn K C = true) (te : exmOne K (.ref C) (.ref C) = some true)
    (fn : K.lookup fI = some ⟨oc, od, .func (fnOf "__init__" "EmptySequence.__init__" (iA p1 p2) (iB q1 q2 q3 q4) iS .none .none doc pm an cdv ct), osl⟩) (cd : codeIn K cdv "EmptySequence.__init__" = true) : Txt K mg C fI :=
  ⟨mg_of X G gC, ⟨_, _, _, _, _, _, _, _, _, _, _, _, _, _, _, cls, tl⟩, ov, sa, ga, gg, noN, tkN, iC, tC, kC, exC, tyC, hdC, te, ⟨_, _, _, _, _, _, _, _, _, _, _, _, _, _, fn, cd⟩⟩
structure InitEnd (h h' : Heap) (x C dx t1 : Addr) (v : Value) : Prop where
  keep : ∀ b o, b ≠ x → h.get? b = some o → h'.get? b = some o
  obj : h'.get? x = some { cls := .ref C, dict := some dx, data := .fields #[.ref t1, .none, .none, .none, .bool false, .none] }
  dbig : h.objs.size ≤ dx
  dne : dx ≠ x
  ns : h'.Ns1 dx (fun y => if y = "tried" then some v else none)
structure Made (h h' : Heap) (e C d : Addr) (v : Value) : Prop where
  keep : ∀ b o, h.get? b = some o → h'.get? b = some o
  new : h.objs.size ≤ e
  obj : ∃ oe vs, h'.get? e = some oe ∧ oe.cls = .ref C ∧ oe.dict = some d ∧ oe.data = .fields vs ∧ vs[1]? = some .none
  dbig : h.objs.size ≤ d
  dne : d ≠ e
  ns : h'.Ns1 d (fun y => if y = "tried" then some v else none)
section
variable {prog : Program} {w : World} {A : Around} {E : Value → Shared → Prop} {R : Result → Shared → Prop} {s : Shared} {K : Frag} {mg : Str → Option Value} {C fI : Addr}
theorem init_run (T : Txt K mg C fI) {x t0 : Addr} {v : Value} (X : K.In s.heap) (lim : s.heap.NoLimit) (hx : s.heap.get? x = some (excO C t0)) (room : A.depth < recursionLimit)
    (hq : ∀ h' tk dx, InitEnd s.heap h' x C dx t0 v → R (.ok (.ret .none)) { s with heap := h', toks := tk }) :
    codeAny (model prog w) A (.call (.ref fI) ⟨[.ref x, v], []⟩) R s := by
  obtain ⟨oc, od, doc, pm, an, cdv, ct, osl, p1, p2, q1, q2, q3, q4, ho, hcd⟩ := T.fn
  refine Att.call_fn (binds := [("self", .ref x), ("tried", v)]) X lim ho hcd room (BindsTo.of_eq (by first | rfl | with_unfolding_all rfl)) (by first | rfl | decide | with_unfolding_all rfl) (fun s₁ IC => ?_) rfl rfl rfl
  obtain ⟨h₁, tk₁, rfl⟩ := IC.toInCall.same
  have kp : ∀ b o, s.heap.get? b = some o → h₁.get? b = some o := IC.toInCall.keep
  have hn := IC.toInCall.ns
  have X₁ : K.In h₁ := X.keeps kp
  have hx₁ := kp _ _ hx
  show wpAny _ _ (execs _ _) _ _ _
  refine wpAny_execs_cons (plainObj_wpAny_Assign_Attribute ?_)
  refine G.ld_own (v := v) hn (by first | rfl | with_unfolding_all rfl | kernel_rfl) (G.ld_own (v := .ref x) hn (by first | rfl | with_unfolding_all rfl | kernel_rfl) ?_)
  refine set_plain X₁ (ox := excO C t0) (od := none) ⟨hx₁, rfl, rfl, trivial⟩ T.sa ?_
  refine G.first_store PySem.F.store_LookupError X₁ hx₁ T.ov T.tkN T.hdC fun h₃ tk₃ dx k₃ dn dne hx₃ hn₃ => ?_
  show wpAny _ _ (execs _ _) _ _ _
  have z : s.heap.objs.size < h₁.objs.size := hn.lt
  exact wpAny_execs_nil (hq h₃ tk₃ dx ⟨fun b o hb e => k₃ b o hb (kp b o e), hx₃, Nat.le_of_lt (Nat.lt_of_lt_of_le z dn), dne, hn₃⟩)
theorem made (T : Txt K mg C fI) {v : Value} (X : K.In s.heap) (lim : s.heap.NoLimit) (room : A.depth + 1 < recursionLimit)
    (hq : ∀ h' tk e d, Made s.heap h' e C d v → R (.ok (.ret (.ref e))) { s with heap := h', toks := tk }) :
    codeAny (model prog w) A (.call (.ref C) ⟨[v], []⟩) R s := by
  obtain ⟨nm, q, N, bs, bm, sn, sub, ab, col, dd, k0, k1, k2, k3, k5, hC, hbm⟩ := T.cls
  obtain ⟨hp, g, dr, tk, os⟩ := s
  have kp : ∀ b o, hp.get? b = some o → ((hp.push (kdv_tup [v])).push (excO C hp.objs.size)).get? b = some o := fun b o e => Heap.get?_push_of_some _ (Heap.get?_push_of_some _ e)
  have hget : ((hp.push (kdv_tup [v])).push (excO C hp.objs.size)).get? (hp.objs.size + 1) = some (excO C hp.objs.size) := by heap_get
  refine call_own PySem.F.excBase_LookupError (fun Y => excTail_contains Y bm hbm) (X _ _ hC) (looks_findIn X T.iC) (fun self => bind_fn X self T.tC) (by rw [sizeLine_eq]; exact (by decide : 1 ≤ 16777216)) ?_
  refine init_run (s := ⟨(hp.push (kdv_tup [v])).push (excO C hp.objs.size), g, dr, tk, os⟩) T (X.keeps kp) (lim.keeps kp) hget (show A.depth + 1 < recursionLimit from room) fun h' tk' dx ⟨k', hx, dn, dne, hns⟩ => ?_
  have old : ∀ b o, hp.get? b = some o → h'.get? b = some o := fun b o e => k' b o (Nat.ne_of_lt (Nat.lt_succ_of_lt (Heap.lt_size e))) (kp b o e)
  have big : hp.objs.size ≤ dx := by
    have q := dn
    have e1 : ((hp.push (kdv_tup [v])).push (excO C hp.objs.size)).objs.size = hp.objs.size + 1 + 1 := by rw [Heap.size_push, Heap.size_push]
    have q2 : ((hp.push (kdv_tup [v])).push (excO C hp.objs.size)).objs.size ≤ dx := q
    rw [e1] at q2
    exact Nat.le_trans (Nat.le_trans (Nat.le_succ _) (Nat.le_succ _)) q2
  exact ⟨rfl, hq h' tk' (hp.objs.size + 1) dx ⟨old, Nat.le_succ _, ⟨_, _, hx, rfl, rfl, rfl, rfl⟩, big, dne, hns⟩⟩
end
end OwnEmptySequence
namespace OwnEmptySequence
open PySem PySem.Spec PyProof.Rows L2
theorem relO {v : V} {v' : Value} (r : RelV v v') (f : Str) : RelO (List.lookup f [(("tried" : Str), v)]) (if f = "tried" then some v' else none) := by
  by_cases hw : f = "tried"
  · subst hw
    rw [if_pos rfl, show List.lookup ("tried" : Str) [(("tried" : Str), v)] = some v by simp [List.lookup]]
    exact r
  · rw [if_neg hw]
    have qw : (f == ("tried" : Str)) = false := by simpa using hw
    rw [show List.lookup f [(("tried" : Str), v)] = none by simp [List.lookup, qw]]
    trivial
section
variable {X : Cx} {C fI : Addr}
/-- EmptySequence(e) -/
def tMk (C : Addr) (ta : TA) : L2.St → Hp → XK → Prop := fun σ H Q => ta σ H fun vs H1 => ∃ v, vs = [v] ∧ ∀ d, H1 d = none → Q (.ref C) (some d) (upd H1 d (.xd [(("tried" : Str), v)]))
theorem pmk {a : Expr} {ta : TA} {p pos : Pos} {k : Nat} (T : OwnEmptySequence.Txt X.K X.mg C fI) (hr : Room k X.A) (hg : Gl X "EmptySequence") (ha : PA X [a] ta)
    (he : starEach (a :: []) X.env = (false, eval a X.env) :: starEach [] X.env := by rfl) (hpl : (backTo pos (starEach [] X.env)).any (·.1) = false := by rfl) :
    PMk X (.Call (.Name "EmptySequence" p) [a] [] pos) (tMk C ta) := by
  intro pins s σ H Q I h
  refine wpAny_Call_Name_kw (ld_glob I hg T.gC ?_)
  refine PySem.W.callWith_K (h₀ := X.base) I.ok.mod.kin T.kC (thn (ha.run pos pins s σ H _ I h) fun us s1 ⟨vs, H1, I1, r1, v, ev, q1⟩ => ?_) he hpl
  subst ev
  refine ⟨I1.kIn, ?_⟩
  obtain ⟨v', rfl, rv⟩ := vals1 r1
  show wpAny _ _ (call (.ref C) [v']) _ _ _
  have lim := I1.nolimit
  obtain ⟨hp, g, dr, tk, os⟩ := s1
  refine wpAny_call (OwnEmptySequence.made T I1.kIn lim (by have := hr.dp; omega) fun h' tk' e d M => ?_)
  show MkP X pins σ Q (.ref e) ⟨h', g, dr, tk', os⟩
  obtain ⟨oe, fv, hoe, hc, hd, hdat, h1⟩ := M.obj
  obtain ⟨G', g1, g2⟩ := restrict h' fun b => decide (b ≠ e)
  have gk : ∀ b, b ≠ e → G'.get? b = h'.get? b := fun b hb => g1 b (decide_eq_true hb)
  have ge : G'.get? e = none := g2 e (by simp)
  have old : ∀ b o, hp.get? b = some o → G'.get? b = some o := fun b o q => (gk b (Nat.ne_of_lt (Nat.lt_of_lt_of_le (Heap.lt_size q) M.new))).trans (M.keep b o q)
  have ob : ObjOk X.prog X.w (upd H1 d (.xd [(("tried" : Str), v)])) G' d (.xd [(("tried" : Str), v)]) := ⟨_, M.ns.at (fun o q => (gk d M.dne).trans q), fun f => relO rv f⟩
  have J : Inv X pins σ (upd H1 d (.xd [(("tried" : Str), v)])) ⟨G', g, dr, tk', os⟩ := I1.laid (t' := tk') old M.dbig ob
  refine ⟨e, oe, fv, ⟨G', g, dr, tk', os⟩, _, .ref C, some d, rfl, J, fun b o q => ?_, ge, hoe, ⟨hc, hd⟩, hdat, h1, ?_, rfl, I1.bare, raises_own T.exC T.tyC, q1 d (I1.hok.fresh M.dbig)⟩
  · have q' : G'.get? b = some o := q
    by_cases hb : b = e
    · rw [hb, ge] at q'
      cases q'
    · exact (gk b hb).symm.trans q'
  · rw [upd_ne (Ne.symm M.dne)]
    exact I1.hok.fresh M.new
/-- EmptySequence(e) as a value -/
theorem pe_mkv {a : Expr} {ta : TA} {p pos : Pos} {k : Nat} (T : OwnEmptySequence.Txt X.K X.mg C fI) (hr : Room k X.A) (hg : Gl X "EmptySequence") (ha : PA X [a] ta)
    (he : starEach (a :: []) X.env = (false, eval a X.env) :: starEach [] X.env := by rfl) (hpl : (backTo pos (starEach [] X.env)).any (·.1) = false := by rfl) :
    PE X (.Call (.Name "EmptySequence" p) [a] [] pos) (fun σ H Q => ta σ H fun vs H1 => ∃ v, vs = [v] ∧ ∀ d e, H1 d = none → H1 e = none → d ≠ e → Q (.ref e) (upd (upd H1 d (.xd [(("tried" : Str), v)])) e (G.ExD C d e))) := by
  refine ⟨fun pins s σ H Q I h => wpAny_Call_Name_kw (ld_glob I hg T.gC ?_)⟩
  refine PySem.W.callWith_K (h₀ := X.base) I.ok.mod.kin T.kC (thn (ha.run pos pins s σ H _ I h) fun us s1 ⟨vs, H1, I1, r1, v, ev, q1⟩ => ?_) he hpl
  subst ev
  obtain ⟨v', rfl, rv⟩ := vals1 r1
  refine ⟨I1.kIn, ?_⟩
  have lim := I1.nolimit
  obtain ⟨hp, g, dr, tk, os⟩ := s1
  refine wpAny_call (OwnEmptySequence.made T I1.kIn lim (by have := hr.dp; omega) fun h' tk' e d M => ?_)
  obtain ⟨oe, fv, hoe, hc, hd, hdat, h1⟩ := M.obj
  obtain ⟨G', g1, g2⟩ := restrict h' fun b => decide (b ≠ e)
  have gk : ∀ b, b ≠ e → G'.get? b = h'.get? b := fun b hb => g1 b (decide_eq_true hb)
  have ge : G'.get? e = none := g2 e (by simp)
  have J : Inv X pins σ (upd H1 d (.xd [(("tried" : Str), v)])) ⟨G', g, dr, tk', os⟩ := I1.laid (t' := tk') (fun b o q => (gk b (Nat.ne_of_lt (Nat.lt_of_lt_of_le (Heap.lt_size q) M.new))).trans (M.keep b o q)) M.dbig ⟨_, M.ns.at (fun o q => (gk d M.dne).trans q), fun f => relO rv f⟩
  have He : H1 e = none := I1.hok.fresh M.new
  have He2 : upd H1 d (.xd [(("tried" : Str), v)]) e = none := by rw [upd_ne (Ne.symm M.dne)]; exact He
  have J2 : Inv X pins σ (upd (upd H1 d (.xd [(("tried" : Str), v)])) e (G.ExD C d e)) ⟨h', g, dr, tk', os⟩ := J.laidN (t' := tk') (fun b u q => by
      by_cases hb : b = e
      · rw [hb, show G'.get? e = none from ge] at q
        cases q
      · exact (gk b hb).symm.trans q) ge He2 ⟨⟨oe, fv, hoe, ⟨hc, hd⟩, hdat⟩, ⟨oe, hoe⟩, fun _ _ ⟨o, v, q, r⟩ k => ⟨o, v, k o q, r⟩⟩
  exact ⟨.ref e, _, J2, rfl, q1 d e (I1.hok.fresh M.dbig) He M.dne⟩
/-- n.tried of such a value -/
theorem pe_fldv {e : Expr} {te : TE} {pos : Pos} (T : OwnEmptySequence.Txt X.K X.mg C fI) (he : PE X e te) (hb : attributeBase e "tried" X.env (eval e X.env) = eval e X.env := by rfl) :
    PE X (.Attribute e "tried" pos) (fun σ H Q => te σ H fun x H1 => ∃ (a dd : Addr) (v : V), x = .ref a ∧ G.IsE H1 a C (some dd) ∧ H1 dd = some (.xd [(("tried" : Str), v)]) ∧ Q v H1) := by
  refine ⟨fun pins s σ H Q I h => attr_of hb (thn (he.run pins s σ H _ I h) fun u s1 ⟨x, H1, I1, rx, a, dd, v, ex, ie, ea, q⟩ => ?_)⟩
  subst ex
  obtain rfl : u = Value.ref a := rx
  obtain ⟨φ, hφ, kφ⟩ := ie
  obtain ⟨z, _, _⟩ := I1.hok a _ hφ
  obtain ⟨oe, vs, ho1, hz, hdt⟩ := kφ _ z
  obtain ⟨mA, hns, hr⟩ : ObjOk X.prog X.w H1 s1.heap dd (.xd [(("tried" : Str), v)]) := I1.hok dd _ ea
  obtain ⟨od, ho, hl⟩ := lookIn_ns hns
  obtain ⟨u, hu, ru⟩ := RelO.some_of (v := v) (o := mA "tried") (by rw [← show List.lookup ("tried" : Str) [(("tried" : Str), v)] = some v by simp [List.lookup]]; exact hr "tried")
  have J : PySem.W.InstAt s1.heap a oe C (some od) := ⟨ho1, hz.1, by unfold PySem.W.notCls; rw [hdt] <;> rfl, by rw [hz.2]; exact ho⟩
  exact PySem.HandSPX.exc_get I1.kIn J T.ga T.gg T.exC (PySem.W.findObj_own T.hdC T.noN rfl (by rw [hl, hu])) (handed_of ru) ⟨v, H1, I1.tok _, ru, q⟩
/-- n.tried, n the exception that the suite holds at a -/
def tFld (C : Addr) (a : Addr) (cls : Value) (d : Option Addr) (te : TE) : TE := fun σ H Q => te σ H fun x H1 => x = .ref a ∧ cls = .ref C ∧ ∃ (dd : Addr) (v : V), d = some dd ∧ H1 dd = some (.xd [(("tried" : Str), v)]) ∧ Q v H1
theorem pe_fld {a : Addr} {oe : Obj} {cls : Value} {d : Option Addr} {pn : List (Addr × Obj)} {e : Expr} {te : TE} {pos : Pos} (T : OwnEmptySequence.Txt X.K X.mg C fI) (hz : Zc cls d oe) (hf : ∃ vs, oe.data = .fields vs) (he : PE (X.suite a ((a, oe) :: pn)) e te)
    (hb : attributeBase e "tried" X.env (eval e X.env) = eval e X.env := by rfl) :
    PE (X.suite a ((a, oe) :: pn)) (.Attribute e "tried" pos) (tFld C a cls d te) := by
  refine ⟨fun pins s σ H Q I h => ?_⟩
  refine attr_of hb (thn (he.run pins s σ H _ I h) fun u s1 ⟨x, H1, I1, rx, ex, ec, dd, v, ed, ea, q⟩ => ?_)
  subst ex ec ed
  obtain rfl : u = Value.ref a := rx
  obtain ⟨ha, _⟩ := I1.pin (a, oe) (List.mem_append_left _ List.mem_cons_self)
  obtain ⟨vs, hd⟩ := hf
  have hx : ObjOk X.prog X.w H1 s1.heap dd (.xd [(("tried" : Str), v)]) := I1.hok dd _ ea
  obtain ⟨mA, hns, hr⟩ := hx
  obtain ⟨od, ho, hl⟩ := lookIn_ns hns
  have l : List.lookup ("tried" : Str) [(("tried" : Str), v)] = some v := by simp [List.lookup]
  obtain ⟨u, hu, ru⟩ := RelO.some_of (v := v) (o := mA "tried") (by rw [← l]; exact hr "tried")
  have J : PySem.W.InstAt s1.heap a oe C (some od) := ⟨ha, hz.1, by unfold PySem.W.notCls; rw [hd] <;> rfl, by rw [hz.2]; exact ho⟩
  exact PySem.HandSPX.exc_get I1.kIn J T.ga T.gg T.exC (PySem.W.findObj_own T.hdC T.noN rfl (by rw [hl, hu])) (handed_of ru) ⟨v, H1, I1.tok _, ru, q⟩
end
end OwnEmptySequence

/-! ## the error InvalidNumber of the text: over IndexError, its own __init__ keeps value (after the guide's skeleton 42, for any base) -/
namespace OwnInvalidNumber
open PySem PySem.W PySem.Calls PyProof.Rows PySem.HandSPX
def iA (p1 p2 : Pos) : Arguments := { posonlyargs := [], args := [{ arg := "self", annotation := none, pos := p1 }, { arg := "value", annotation := none, pos := p2 }], vararg := none, kwonlyargs := [], kw_defaults := [], kwarg := none, defaults := [] }
def iB (q1 q2 q3 q4 : Pos) : List Stmt := [.Assign [.Attribute (.Name "self" q1) "value" q2] (.Name "value" q3) q4]
def iS : Scope := { kind := .function, names := [(PySem.Str.ofString "self", .local), (PySem.Str.ofString "value", .local)], isGenerator := false, isCoroutine := false, more := [] }
abbrev bmB : List Value := [.type "IndexError", .type "LookupError", .type "Exception", .type "BaseException", .type "object"]
structure Txt (K : Frag) (mg : Str → Option Value) (C fI : Addr) : Prop where
  gC : mg "InvalidNumber" = some (.ref C)
  cls : ∃ nm q N bs bm sn sub ab col dd k0 k1 k2 k3 k5, K.lookup C = some (excClassObj nm q C N bs bm true sn sub ab col dd k0 k1 k2 k3 k5 "IndexError.__new__") ∧ excTail bmB bm = true
  ov : excOver K C bmB = true
  sa : findIn K (.ref C) "__setattr__" = some (some (.builtin "object.__setattr__"))
  ga : findIn K (.ref C) "__getattribute__" = some (some (.builtin "BaseException.__getattribute__"))
  gg : findIn K (.ref C) "__getattr__" = some none
  noN : findIn K (.ref C) "value" = some none
  tkN : takerIn K C "value" = some none
  iC : findIn K (.ref C) "__init__" = some (some (.ref fI))
  tC : typeIn K (.ref fI) = some (.type "function")
  kC : keepIn K (.ref C) = true
  exC : subIn K (.ref C) (.type "BaseException") = some true
  tyC : typeIn K (.ref C) = some (.type "type")
  hdC : hasDictIn K C = true
  te : exmOne K (.ref C) (.ref C) = some true
  fn : ∃ (oc : Value) (od : Option Addr) (doc pm : Value) (an : Option Addr) (cdv ct : Value) (osl : Array (Option Value)) (p1 p2 q1 q2 q3 q4 : Pos),
    K.lookup fI = some ⟨oc, od, .func (fnOf "__init__" "InvalidNumber.__init__" (iA p1 p2) (iB q1 q2 q3 q4) iS .none .none doc pm an cdv ct), osl⟩ ∧ codeIn K cdv "InvalidNumber.__init__" = true
theorem mk_txt {K : Frag} {h : Heap} {mg : Str → Option Value} {C fI : Addr} {nm q : Str} {N : Addr} {bs bm : List Value} {sn : List Str} {sub : List Value} {ab : Bool} {col : Option Bool} {dd : Option Addr} {k0 k1 k2 k3 k5 : Option Value}
    {oc : Value} {od : Option Addr} {doc pm : Value} {an : Option Addr} {cdv ct : Value} {osl : Array (Option Value)} {p1 p2 q1 q2 q3 q4 : Pos} (X : K.In h) (G : h.Ns mainGlobals mg)
    (gC : nsIn K mainGlobals "InvalidNumber" = some (some (.ref C))) (cls : K.lookup C = some (excClassObj nm q C N bs bm true sn sub ab col dd k0 k1 k2 k3 k5 "IndexError.__new__")) (tl : excTail bmB bm = true)
    (ov : excOver K C bmB = true) (sa : findIn K (.ref C) "__setattr__" = some (some (.builtin "object.__setattr__"))) (ga : findIn K (.ref C) "__getattribute__" = some (some (.builtin "BaseException.__getattribute__")))
    (gg : findIn K (.ref C) "__getattr__" = some none) (noN : findIn K (.ref C) "value" = some none) (tkN : takerIn K C "value" = some none) (iC : findIn K (.ref C) "__init__" = some (some (.ref fI)))
    (tC : typeIn K (.ref fI) = some (.type "function")) (kC : keepIn K (.ref C) = true) (exC : subIn K (.ref C) (.type "BaseException") = some true) (tyC : typeIn K (.ref C) = some (.type "type")) (hdC : hasDictIn K C = true) (te : exmOne K (.ref C) (.ref C) = some true)
    (fn : K.lookup fI = some ⟨oc, od, .func (fnOf "__init__" "InvalidNumber.__init__" (iA p1 p2) (iB q1 q2 q3 q4) iS .none .none doc pm an cdv ct), osl⟩) (cd : codeIn K cdv "InvalidNumber.__init__" = true) : Txt K mg C fI :=
  ⟨mg_of X G gC, ⟨_, _, _, _, _, _, _, _, _, _, _, _, _, _, _, cls, tl⟩, ov, sa, ga, gg, noN, tkN, iC, tC, kC, exC, tyC, hdC, te, ⟨_, _, _, _, _, _, _, _, _, _, _, _, _, _, fn, cd⟩⟩
structure InitEnd (h h' : Heap) (x C dx t1 : Addr) (v : Value) : Prop where
  keep : ∀ b o, b ≠ x → h.get? b = some o → h'.get? b = some o
  obj : h'.get? x = some { cls := .ref C, dict := some dx, data := .fields #[.ref t1, .none, .none, .none, .bool false, .none] }
  dbig : h.objs.size ≤ dx
  dne : dx ≠ x
  ns : h'.Ns1 dx (fun y => if y = "value" then some v else none)
structure Made (h h' : Heap) (e C d : Addr) (v : Value) : Prop where
  keep : ∀ b o, h.get? b = some o → h'.get? b = some o
  new : h.objs.size ≤ e
  obj : ∃ oe vs, h'.get? e = some oe ∧ oe.cls = .ref C ∧ oe.dict = some d ∧ oe.data = .fields vs ∧ vs[1]? = some .none
  dbig : h.objs.size ≤ d
  dne : d ≠ e
  ns : h'.Ns1 d (fun y => if y = "value" then some v else none)
section
variable {prog : Program} {w : World} {A : Around} {E : Value → Shared → Prop} {R : Result → Shared → Prop} {s : Shared} {K : Frag} {mg : Str → Option Value} {C fI : Addr}
theorem init_run (T : Txt K mg C fI) {x t0 : Addr} {v : Value} (X : K.In s.heap) (lim : s.heap.NoLimit) (hx : s.heap.get? x = some (excO C t0)) (room : A.depth < recursionLimit)
    (hq : ∀ h' tk dx, InitEnd s.heap h' x C dx t0 v → R (.ok (.ret .none)) { s with heap := h', toks := tk }) :
    codeAny (model prog w) A (.call (.ref fI) ⟨[.ref x, v], []⟩) R s := by
  obtain ⟨oc, od, doc, pm, an, cdv, ct, osl, p1, p2, q1, q2, q3, q4, ho, hcd⟩ := T.fn
  refine Att.call_fn (binds := [("self", .ref x), ("value", v)]) X lim ho hcd room (BindsTo.of_eq (by first | rfl | with_unfolding_all rfl)) (by first | rfl | decide | with_unfolding_all rfl) (fun s₁ IC => ?_) rfl rfl rfl
  obtain ⟨h₁, tk₁, rfl⟩ := IC.toInCall.same
  have kp : ∀ b o, s.heap.get? b = some o → h₁.get? b = some o := IC.toInCall.keep
  have hn := IC.toInCall.ns
  have X₁ : K.In h₁ := X.keeps kp
  have hx₁ := kp _ _ hx
  show wpAny _ _ (execs _ _) _ _ _
  refine wpAny_execs_cons (plainObj_wpAny_Assign_Attribute ?_)
  refine G.ld_own (v := v) hn (by first | rfl | with_unfolding_all rfl | kernel_rfl) (G.ld_own (v := .ref x) hn (by first | rfl | with_unfolding_all rfl | kernel_rfl) ?_)
  refine set_plain X₁ (ox := excO C t0) (od := none) ⟨hx₁, rfl, rfl, trivial⟩ T.sa ?_
  refine G.first_store PySem.F.store_IndexError X₁ hx₁ T.ov T.tkN T.hdC fun h₃ tk₃ dx k₃ dn dne hx₃ hn₃ => ?_
  show wpAny _ _ (execs _ _) _ _ _
  have z : s.heap.objs.size < h₁.objs.size := hn.lt
  exact wpAny_execs_nil (hq h₃ tk₃ dx ⟨fun b o hb e => k₃ b o hb (kp b o e), hx₃, Nat.le_of_lt (Nat.lt_of_lt_of_le z dn), dne, hn₃⟩)
theorem made (T : Txt K mg C fI) {v : Value} (X : K.In s.heap) (lim : s.heap.NoLimit) (room : A.depth + 1 < recursionLimit)
    (hq : ∀ h' tk e d, Made s.heap h' e C d v → R (.ok (.ret (.ref e))) { s with heap := h', toks := tk }) :
    codeAny (model prog w) A (.call (.ref C) ⟨[v], []⟩) R s := by
  obtain ⟨nm, q, N, bs, bm, sn, sub, ab, col, dd, k0, k1, k2, k3, k5, hC, hbm⟩ := T.cls
  obtain ⟨hp, g, dr, tk, os⟩ := s
  have kp : ∀ b o, hp.get? b = some o → ((hp.push (kdv_tup [v])).push (excO C hp.objs.size)).get? b = some o := fun b o e => Heap.get?_push_of_some _ (Heap.get?_push_of_some _ e)
  have hget : ((hp.push (kdv_tup [v])).push (excO C hp.objs.size)).get? (hp.objs.size + 1) = some (excO C hp.objs.size) := by heap_get
  refine call_own PySem.F.excBase_IndexError (fun Y => excTail_contains Y bm hbm) (X _ _ hC) (looks_findIn X T.iC) (fun self => bind_fn X self T.tC) (by rw [sizeLine_eq]; exact (by decide : 1 ≤ 16777216)) ?_
  refine init_run (s := ⟨(hp.push (kdv_tup [v])).push (excO C hp.objs.size), g, dr, tk, os⟩) T (X.keeps kp) (lim.keeps kp) hget (show A.depth + 1 < recursionLimit from room) fun h' tk' dx ⟨k', hx, dn, dne, hns⟩ => ?_
  have old : ∀ b o, hp.get? b = some o → h'.get? b = some o := fun b o e => k' b o (Nat.ne_of_lt (Nat.lt_succ_of_lt (Heap.lt_size e))) (kp b o e)
  have big : hp.objs.size ≤ dx := by
    have q := dn
    have e1 : ((hp.push (kdv_tup [v])).push (excO C hp.objs.size)).objs.size = hp.objs.size + 1 + 1 := by rw [Heap.size_push, Heap.size_push]
    have q2 : ((hp.push (kdv_tup [v])).push (excO C hp.objs.size)).objs.size ≤ dx := q
    rw [e1] at q2
    exact Nat.le_trans (Nat.le_trans (Nat.le_succ _) (Nat.le_succ _)) q2
  exact ⟨rfl, hq h' tk' (hp.objs.size + 1) dx ⟨old, Nat.le_succ _, ⟨_, _, hx, rfl, rfl, rfl, rfl⟩, big, dne, hns⟩⟩
end
end OwnInvalidNumber
namespace OwnInvalidNumber
open PySem PySem.Spec PyProof.Rows L2
theorem relO {v : V} {v' : Value} (r : RelV v v') (f : Str) : RelO (List.lookup f [(("value" : Str), v)]) (if f = "value" then some v' else none) := by
  by_cases hw : f = "value"
  · subst hw
    rw [if_pos rfl, show List.lookup ("value" : Str) [(("value" : Str), v)] = some v by simp [List.lookup]]
    exact r
  · rw [if_neg hw]
    have qw : (f == ("value" : Str)) = false := by simpa using hw
    rw [show List.lookup f [(("value" : Str), v)] = none by simp [List.lookup, qw]]
    trivial
section
variable {X : Cx} {C fI : Addr}
/-- InvalidNumber(e) -/
def tMk (C : Addr) (ta : TA) : L2.St → Hp → XK → Prop := fun σ H Q => ta σ H fun vs H1 => ∃ v, vs = [v] ∧ ∀ d, H1 d = none → Q (.ref C) (some d) (upd H1 d (.xd [(("value" : Str), v)]))
theorem pmk {a : Expr} {ta : TA} {p pos : Pos} {k : Nat} (T : OwnInvalidNumber.Txt X.K X.mg C fI) (hr : Room k X.A) (hg : Gl X "InvalidNumber") (ha : PA X [a] ta)
    (he : starEach (a :: []) X.env = (false, eval a X.env) :: starEach [] X.env := by rfl) (hpl : (backTo pos (starEach [] X.env)).any (·.1) = false := by rfl) :
    PMk X (.Call (.Name "InvalidNumber" p) [a] [] pos) (tMk C ta) := by
  intro pins s σ H Q I h
  refine wpAny_Call_Name_kw (ld_glob I hg T.gC ?_)
  refine PySem.W.callWith_K (h₀ := X.base) I.ok.mod.kin T.kC (thn (ha.run pos pins s σ H _ I h) fun us s1 ⟨vs, H1, I1, r1, v, ev, q1⟩ => ?_) he hpl
  subst ev
  refine ⟨I1.kIn, ?_⟩
  obtain ⟨v', rfl, rv⟩ := vals1 r1
  show wpAny _ _ (call (.ref C) [v']) _ _ _
  have lim := I1.nolimit
  obtain ⟨hp, g, dr, tk, os⟩ := s1
  refine wpAny_call (OwnInvalidNumber.made T I1.kIn lim (by have := hr.dp; omega) fun h' tk' e d M => ?_)
  show MkP X pins σ Q (.ref e) ⟨h', g, dr, tk', os⟩
  obtain ⟨oe, fv, hoe, hc, hd, hdat, h1⟩ := M.obj
  obtain ⟨G', g1, g2⟩ := restrict h' fun b => decide (b ≠ e)
  have gk : ∀ b, b ≠ e → G'.get? b = h'.get? b := fun b hb => g1 b (decide_eq_true hb)
  have ge : G'.get? e = none := g2 e (by simp)
  have old : ∀ b o, hp.get? b = some o → G'.get? b = some o := fun b o q => (gk b (Nat.ne_of_lt (Nat.lt_of_lt_of_le (Heap.lt_size q) M.new))).trans (M.keep b o q)
  have ob : ObjOk X.prog X.w (upd H1 d (.xd [(("value" : Str), v)])) G' d (.xd [(("value" : Str), v)]) := ⟨_, M.ns.at (fun o q => (gk d M.dne).trans q), fun f => relO rv f⟩
  have J : Inv X pins σ (upd H1 d (.xd [(("value" : Str), v)])) ⟨G', g, dr, tk', os⟩ := I1.laid (t' := tk') old M.dbig ob
  refine ⟨e, oe, fv, ⟨G', g, dr, tk', os⟩, _, .ref C, some d, rfl, J, fun b o q => ?_, ge, hoe, ⟨hc, hd⟩, hdat, h1, ?_, rfl, I1.bare, raises_own T.exC T.tyC, q1 d (I1.hok.fresh M.dbig)⟩
  · have q' : G'.get? b = some o := q
    by_cases hb : b = e
    · rw [hb, ge] at q'
      cases q'
    · exact (gk b hb).symm.trans q'
  · rw [upd_ne (Ne.symm M.dne)]
    exact I1.hok.fresh M.new
/-- InvalidNumber(e) as a value -/
theorem pe_mkv {a : Expr} {ta : TA} {p pos : Pos} {k : Nat} (T : OwnInvalidNumber.Txt X.K X.mg C fI) (hr : Room k X.A) (hg : Gl X "InvalidNumber") (ha : PA X [a] ta)
    (he : starEach (a :: []) X.env = (false, eval a X.env) :: starEach [] X.env := by rfl) (hpl : (backTo pos (starEach [] X.env)).any (·.1) = false := by rfl) :
    PE X (.Call (.Name "InvalidNumber" p) [a] [] pos) (fun σ H Q => ta σ H fun vs H1 => ∃ v, vs = [v] ∧ ∀ d e, H1 d = none → H1 e = none → d ≠ e → Q (.ref e) (upd (upd H1 d (.xd [(("value" : Str), v)])) e (G.ExD C d e))) := by
  refine ⟨fun pins s σ H Q I h => wpAny_Call_Name_kw (ld_glob I hg T.gC ?_)⟩
  refine PySem.W.callWith_K (h₀ := X.base) I.ok.mod.kin T.kC (thn (ha.run pos pins s σ H _ I h) fun us s1 ⟨vs, H1, I1, r1, v, ev, q1⟩ => ?_) he hpl
  subst ev
  obtain ⟨v', rfl, rv⟩ := vals1 r1
  refine ⟨I1.kIn, ?_⟩
  have lim := I1.nolimit
  obtain ⟨hp, g, dr, tk, os⟩ := s1
  refine wpAny_call (OwnInvalidNumber.made T I1.kIn lim (by have := hr.dp; omega) fun h' tk' e d M => ?_)
  obtain ⟨oe, fv, hoe, hc, hd, hdat, h1⟩ := M.obj
  obtain ⟨G', g1, g2⟩ := restrict h' fun b => decide (b ≠ e)
  have gk : ∀ b, b ≠ e → G'.get? b = h'.get? b := fun b hb => g1 b (decide_eq_true hb)
  have ge : G'.get? e = none := g2 e (by simp)
  have J : Inv X pins σ (upd H1 d (.xd [(("value" : Str), v)])) ⟨G', g, dr, tk', os⟩ := I1.laid (t' := tk') (fun b o q => (gk b (Nat.ne_of_lt (Nat.lt_of_lt_of_le (Heap.lt_size q) M.new))).trans (M.keep b o q)) M.dbig ⟨_, M.ns.at (fun o q => (gk d M.dne).trans q), fun f => relO rv f⟩
  have He : H1 e = none := I1.hok.fresh M.new
  have He2 : upd H1 d (.xd [(("value" : Str), v)]) e = none := by rw [upd_ne (Ne.symm M.dne)]; exact He
  have J2 : Inv X pins σ (upd (upd H1 d (.xd [(("value" : Str), v)])) e (G.ExD C d e)) ⟨h', g, dr, tk', os⟩ := J.laidN (t' := tk') (fun b u q => by
      by_cases hb : b = e
      · rw [hb, show G'.get? e = none from ge] at q
        cases q
      · exact (gk b hb).symm.trans q) ge He2 ⟨⟨oe, fv, hoe, ⟨hc, hd⟩, hdat⟩, ⟨oe, hoe⟩, fun _ _ ⟨o, v, q, r⟩ k => ⟨o, v, k o q, r⟩⟩
  exact ⟨.ref e, _, J2, rfl, q1 d e (I1.hok.fresh M.dbig) He M.dne⟩
/-- n.value of such a value -/
theorem pe_fldv {e : Expr} {te : TE} {pos : Pos} (T : OwnInvalidNumber.Txt X.K X.mg C fI) (he : PE X e te) (hb : attributeBase e "value" X.env (eval e X.env) = eval e X.env := by rfl) :
    PE X (.Attribute e "value" pos) (fun σ H Q => te σ H fun x H1 => ∃ (a dd : Addr) (v : V), x = .ref a ∧ G.IsE H1 a C (some dd) ∧ H1 dd = some (.xd [(("value" : Str), v)]) ∧ Q v H1) := by
  refine ⟨fun pins s σ H Q I h => attr_of hb (thn (he.run pins s σ H _ I h) fun u s1 ⟨x, H1, I1, rx, a, dd, v, ex, ie, ea, q⟩ => ?_)⟩
  subst ex
  obtain rfl : u = Value.ref a := rx
  obtain ⟨φ, hφ, kφ⟩ := ie
  obtain ⟨z, _, _⟩ := I1.hok a _ hφ
  obtain ⟨oe, vs, ho1, hz, hdt⟩ := kφ _ z
  obtain ⟨mA, hns, hr⟩ : ObjOk X.prog X.w H1 s1.heap dd (.xd [(("value" : Str), v)]) := I1.hok dd _ ea
  obtain ⟨od, ho, hl⟩ := lookIn_ns hns
  obtain ⟨u, hu, ru⟩ := RelO.some_of (v := v) (o := mA "value") (by rw [← show List.lookup ("value" : Str) [(("value" : Str), v)] = some v by simp [List.lookup]]; exact hr "value")
  have J : PySem.W.InstAt s1.heap a oe C (some od) := ⟨ho1, hz.1, by unfold PySem.W.notCls; rw [hdt] <;> rfl, by rw [hz.2]; exact ho⟩
  exact PySem.HandSPX.exc_get I1.kIn J T.ga T.gg T.exC (PySem.W.findObj_own T.hdC T.noN rfl (by rw [hl, hu])) (handed_of ru) ⟨v, H1, I1.tok _, ru, q⟩
/-- n.value, n the exception that the suite holds at a -/
def tFld (C : Addr) (a : Addr) (cls : Value) (d : Option Addr) (te : TE) : TE := fun σ H Q => te σ H fun x H1 => x = .ref a ∧ cls = .ref C ∧ ∃ (dd : Addr) (v : V), d = some dd ∧ H1 dd = some (.xd [(("value" : Str), v)]) ∧ Q v H1
theorem pe_fld {a : Addr} {oe : Obj} {cls : Value} {d : Option Addr} {pn : List (Addr × Obj)} {e : Expr} {te : TE} {pos : Pos} (T : OwnInvalidNumber.Txt X.K X.mg C fI) (hz : Zc cls d oe) (hf : ∃ vs, oe.data = .fields vs) (he : PE (X.suite a ((a, oe) :: pn)) e te)
    (hb : attributeBase e "value" X.env (eval e X.env) = eval e X.env := by rfl) :
    PE (X.suite a ((a, oe) :: pn)) (.Attribute e "value" pos) (tFld C a cls d te) := by
  refine ⟨fun pins s σ H Q I h => ?_⟩
  refine attr_of hb (thn (he.run pins s σ H _ I h) fun u s1 ⟨x, H1, I1, rx, ex, ec, dd, v, ed, ea, q⟩ => ?_)
  subst ex ec ed
  obtain rfl : u = Value.ref a := rx
  obtain ⟨ha, _⟩ := I1.pin (a, oe) (List.mem_append_left _ List.mem_cons_self)
  obtain ⟨vs, hd⟩ := hf
  have hx : ObjOk X.prog X.w H1 s1.heap dd (.xd [(("value" : Str), v)]) := I1.hok dd _ ea
  obtain ⟨mA, hns, hr⟩ := hx
  obtain ⟨od, ho, hl⟩ := lookIn_ns hns
  have l : List.lookup ("value" : Str) [(("value" : Str), v)] = some v := by simp [List.lookup]
  obtain ⟨u, hu, ru⟩ := RelO.some_of (v := v) (o := mA "value") (by rw [← l]; exact hr "value")
  have J : PySem.W.InstAt s1.heap a oe C (some od) := ⟨ha, hz.1, by unfold PySem.W.notCls; rw [hd] <;> rfl, by rw [hz.2]; exact ho⟩
  exact PySem.HandSPX.exc_get I1.kIn J T.ga T.gg T.exC (PySem.W.findObj_own T.hdC T.noN rfl (by rw [hl, hu])) (handed_of ru) ⟨v, H1, I1.tok _, ru, q⟩
end
end OwnInvalidNumber

/-! ## the error NothingToUndo of the text: over RuntimeError, its own __init__ keeps many (after the guide's skeleton 42, for any base) -/
namespace OwnNothingToUndo
open PySem PySem.W PySem.Calls PyProof.Rows PySem.HandSPX
def iA (p1 p2 : Pos) : Arguments := { posonlyargs := [], args := [{ arg := "self", annotation := none, pos := p1 }, { arg := "many", annotation := none, pos := p2 }], vararg := none, kwonlyargs := [], kw_defaults := [], kwarg := none, defaults := [] }
def iB (q1 q2 q3 q4 : Pos) : List Stmt := [.Assign [.Attribute (.Name "self" q1) "many" q2] (.Name "many" q3) q4]
def iS : Scope := { kind := .function, names := [(PySem.Str.ofString "self", .local), (PySem.Str.ofString "many", .local)], isGenerator := false, isCoroutine := false, more := [] }
abbrev bmB : List Value := [.type "RuntimeError", .type "Exception", .type "BaseException", .type "object"]
structure Txt (K : Frag) (mg : Str → Option Value) (C fI : Addr) : Prop where
  gC : mg "NothingToUndo" = some (.ref C)
  cls : ∃ nm q N bs bm sn sub ab col dd k0 k1 k2 k3 k5, K.lookup C = some (excClassObj nm q C N bs bm true sn sub ab col dd k0 k1 k2 k3 k5 "RuntimeError.__new__") ∧ excTail bmB bm = true
  ov : excOver K C bmB = true
  sa : findIn K (.ref C) "__setattr__" = some (some (.builtin "object.__setattr__"))
  ga : findIn K (.ref C) "__getattribute__" = some (some (.builtin "BaseException.__getattribute__"))
  gg : findIn K (.ref C) "__getattr__" = some none
  noN : findIn K (.ref C) "many" = some none
  tkN : takerIn K C "many" = some none
  iC : findIn K (.ref C) "__init__" = some (some (.ref fI))
  tC : typeIn K (.ref fI) = some (.type "function")
  kC : keepIn K (.ref C) = true
  exC : subIn K (.ref C) (.type "BaseException") = some true
  tyC : typeIn K (.ref C) = some (.type "type")
  hdC : hasDictIn K C = true
  te : exmOne K (.ref C) (.ref C) = some true
  fn : ∃ (oc : Value) (od : Option Addr) (doc pm : Value) (an : Option Addr) (cdv ct : Value) (osl : Array (Option Value)) (p1 p2 q1 q2 q3 q4 : Pos),
    K.lookup fI = some ⟨oc, od, .func (fnOf "__init__" "NothingToUndo.__init__" (iA p1 p2) (iB q1 q2 q3 q4) iS .none .none doc pm an cdv ct), osl⟩ ∧ codeIn K cdv "NothingToUndo.__init__" = true
theorem mk_txt {K : Frag} {h : Heap} {mg : Str → Option Value} {C fI : Addr} {nm q : Str} {N : Addr} {bs bm : List Value} {sn : List Str} {sub : List Value} {ab : Bool} {col : Option Bool} {dd : Option Addr} {k0 k1 k2 k3 k5 : Option Value}
    {oc : Value} {od : Option Addr} {doc pm : Value} {an : Option Addr} {cdv ct : Value} {osl : Array (Option Value)} {p1 p2 q1 q2 q3 q4 : Pos} (X : K.In h) (G : h.Ns mainGlobals mg)
    (gC : nsIn K mainGlobals "NothingToUndo" = some (some (.ref C))) (cls : K.lookup C = some (excClassObj nm q C N bs bm true sn sub ab col dd k0 k1 k2 k3 k5 "RuntimeError.__new__")) (tl : excTail bmB bm = true)
    (ov : excOver K C bmB = true) (sa : findIn K (.ref C) "__setattr__" = some (some (.builtin "object.__setattr__"))) (ga : findIn K (.ref C) "__getattribute__" = some (some (.builtin "BaseException.__getattribute__")))
    (gg : findIn K (.ref C) "__getattr__" = some none) (noN : findIn K (.ref C) "many" = some none) (tkN : takerIn K C "many" = some none) (iC : findIn K (.ref C) "__init__" = some (some (.ref fI)))
    (tC : typeIn K (.ref fI) = some (.type "function")) (kC : keepIn K (.ref C) = true) (exC : subIn K (.ref C) (.type "BaseException") = some true) (tyC : typeIn K (.ref C) = some (.type "type")) (hdC : hasDictIn K C = true) (te : exmOne K (.ref C) (.ref C) = some true)
    (fn : K.lookup fI = some ⟨oc, od, .func (fnOf "__init__" "NothingToUndo.__init__" (iA p1 p2) (iB q1 q2 q3 q4) iS .none .none doc pm an cdv ct), osl⟩) (cd : codeIn K cdv "NothingToUndo.__init__" = true) : Txt K mg C fI :=
  ⟨mg_of X G gC, ⟨_, _, _, _, _, _, _, _, _, _, _, _, _, _, _, cls, tl⟩, ov, sa, ga, gg, noN, tkN, iC, tC, kC, exC, tyC, hdC, te, ⟨_, _, _, _, _, _, _, _, _, _, _, _, _, _, fn, cd⟩⟩
structure InitEnd (h h' : Heap) (x C dx t1 : Addr) (v : Value) : Prop where
  keep : ∀ b o, b ≠ x → h.get? b = some o → h'.get? b = some o
  obj : h'.get? x = some { cls := .ref C, dict := some dx, data := .fields #[.ref t1, .none, .none, .none, .bool false, .none] }
  dbig : h.objs.size ≤ dx
  dne : dx ≠ x
  ns : h'.Ns1 dx (fun y => if y = "many" then some v else none)
structure Made (h h' : Heap) (e C d : Addr) (v : Value) : Prop where
  keep : ∀ b o, h.get? b = some o → h'.get? b = some o
  new : h.objs.size ≤ e
  obj : ∃ oe vs, h'.get? e = some oe ∧ oe.cls = .ref C ∧ oe.dict = some d ∧ oe.data = .fields vs ∧ vs[1]? = some .none
  dbig : h.objs.size ≤ d
  dne : d ≠ e
  ns : h'.Ns1 d (fun y => if y = "many" then some v else none)
section
variable {prog : Program} {w : World} {A : Around} {E : Value → Shared → Prop} {R : Result → Shared → Prop} {s : Shared} {K : Frag} {mg : Str → Option Value} {C fI : Addr}
theorem init_run (T : Txt K mg C fI) {x t0 : Addr} {v : Value} (X : K.In s.heap) (lim : s.heap.NoLimit) (hx : s.heap.get? x = some (excO C t0)) (room : A.depth < recursionLimit)
    (hq : ∀ h' tk dx, InitEnd s.heap h' x C dx t0 v → R (.ok (.ret .none)) { s with heap := h', toks := tk }) :
    codeAny (model prog w) A (.call (.ref fI) ⟨[.ref x, v], []⟩) R s := by
  obtain ⟨oc, od, doc, pm, an, cdv, ct, osl, p1, p2, q1, q2, q3, q4, ho, hcd⟩ := T.fn
  refine Att.call_fn (binds := [("self", .ref x), ("many", v)]) X lim ho hcd room (BindsTo.of_eq (by first | rfl | with_unfolding_all rfl)) (by first | rfl | decide | with_unfolding_all rfl) (fun s₁ IC => ?_) rfl rfl rfl
  obtain ⟨h₁, tk₁, rfl⟩ := IC.toInCall.same
  have kp : ∀ b o, s.heap.get? b = some o → h₁.get? b = some o := IC.toInCall.keep
  have hn := IC.toInCall.ns
  have X₁ : K.In h₁ := X.keeps kp
  have hx₁ := kp _ _ hx
  show wpAny _ _ (execs _ _) _ _ _
  refine wpAny_execs_cons (plainObj_wpAny_Assign_Attribute ?_)
  refine G.ld_own (v := v) hn (by first | rfl | with_unfolding_all rfl | kernel_rfl) (G.ld_own (v := .ref x) hn (by first | rfl | with_unfolding_all rfl | kernel_rfl) ?_)
  refine set_plain X₁ (ox := excO C t0) (od := none) ⟨hx₁, rfl, rfl, trivial⟩ T.sa ?_
  refine G.first_store PySem.F.store_RuntimeError X₁ hx₁ T.ov T.tkN T.hdC fun h₃ tk₃ dx k₃ dn dne hx₃ hn₃ => ?_
  show wpAny _ _ (execs _ _) _ _ _
  have z : s.heap.objs.size < h₁.objs.size := hn.lt
  exact wpAny_execs_nil (hq h₃ tk₃ dx ⟨fun b o hb e => k₃ b o hb (kp b o e), hx₃, Nat.le_of_lt (Nat.lt_of_lt_of_le z dn), dne, hn₃⟩)
theorem made (T : Txt K mg C fI) {v : Value} (X : K.In s.heap) (lim : s.heap.NoLimit) (room : A.depth + 1 < recursionLimit)
    (hq : ∀ h' tk e d, Made s.heap h' e C d v → R (.ok (.ret (.ref e))) { s with heap := h', toks := tk }) :
    codeAny (model prog w) A (.call (.ref C) ⟨[v], []⟩) R s := by
  obtain ⟨nm, q, N, bs, bm, sn, sub, ab, col, dd, k0, k1, k2, k3, k5, hC, hbm⟩ := T.cls
  obtain ⟨hp, g, dr, tk, os⟩ := s
  have kp : ∀ b o, hp.get? b = some o → ((hp.push (kdv_tup [v])).push (excO C hp.objs.size)).get? b = some o := fun b o e => Heap.get?_push_of_some _ (Heap.get?_push_of_some _ e)
  have hget : ((hp.push (kdv_tup [v])).push (excO C hp.objs.size)).get? (hp.objs.size + 1) = some (excO C hp.objs.size) := by heap_get
  refine call_own PySem.F.excBase_RuntimeError (fun Y => excTail_contains Y bm hbm) (X _ _ hC) (looks_findIn X T.iC) (fun self => bind_fn X self T.tC) (by rw [sizeLine_eq]; exact (by decide : 1 ≤ 16777216)) ?_
  refine init_run (s := ⟨(hp.push (kdv_tup [v])).push (excO C hp.objs.size), g, dr, tk, os⟩) T (X.keeps kp) (lim.keeps kp) hget (show A.depth + 1 < recursionLimit from room) fun h' tk' dx ⟨k', hx, dn, dne, hns⟩ => ?_
  have old : ∀ b o, hp.get? b = some o → h'.get? b = some o := fun b o e => k' b o (Nat.ne_of_lt (Nat.lt_succ_of_lt (Heap.lt_size e))) (kp b o e)
  have big : hp.objs.size ≤ dx := by
    have q := dn
    have e1 : ((hp.push (kdv_tup [v])).push (excO C hp.objs.size)).objs.size = hp.objs.size + 1 + 1 := by rw [Heap.size_push, Heap.size_push]
    have q2 : ((hp.push (kdv_tup [v])).push (excO C hp.objs.size)).objs.size ≤ dx := q
    rw [e1] at q2
    exact Nat.le_trans (Nat.le_trans (Nat.le_succ _) (Nat.le_succ _)) q2
  exact ⟨rfl, hq h' tk' (hp.objs.size + 1) dx ⟨old, Nat.le_succ _, ⟨_, _, hx, rfl, rfl, rfl, rfl⟩, big, dne, hns⟩⟩
end
end OwnNothingToUndo
namespace OwnNothingToUndo
open PySem PySem.Spec PyProof.Rows L2
theorem relO {v : V} {v' : Value} (r : RelV v v') (f : Str) : RelO (List.lookup f [(("many" : Str), v)]) (if f = "many" then some v' else none) := by
  by_cases hw : f = "many"
  · subst hw
    rw [if_pos rfl, show List.lookup ("many" : Str) [(("many" : Str), v)] = some v by simp [List.lookup]]
    exact r
  · rw [if_neg hw]
    have qw : (f == ("many" : Str)) = false := by simpa using hw
    rw [show List.lookup f [(("many" : Str), v)] = none by simp [List.lookup, qw]]
    trivial
section
variable {X : Cx} {C fI : Addr}
/-- NothingToUndo(e) -/
def tMk (C : Addr) (ta : TA) : L2.St → Hp → XK → Prop := fun σ H Q => ta σ H fun vs H1 => ∃ v, vs = [v] ∧ ∀ d, H1 d = none → Q (.ref C) (some d) (upd H1 d (.xd [(("many" : Str), v)]))
theorem pmk {a : Expr} {ta : TA} {p pos : Pos} {k : Nat} (T : OwnNothingToUndo.Txt X.K X.mg C fI) (hr : Room k X.A) (hg : Gl X "NothingToUndo") (ha : PA X [a] ta)
    (he : starEach (a :: []) X.env = (false, eval a X.env) :: starEach [] X.env := by rfl) (hpl : (backTo pos (starEach [] X.env)).any (·.1) = false := by rfl) :
    PMk X (.Call (.Name "NothingToUndo" p) [a] [] pos) (tMk C ta) := by
  intro pins s σ H Q I h
  refine wpAny_Call_Name_kw (ld_glob I hg T.gC ?_)
  refine PySem.W.callWith_K (h₀ := X.base) I.ok.mod.kin T.kC (thn (ha.run pos pins s σ H _ I h) fun us s1 ⟨vs, H1, I1, r1, v, ev, q1⟩ => ?_) he hpl
  subst ev
  refine ⟨I1.kIn, ?_⟩
  obtain ⟨v', rfl, rv⟩ := vals1 r1
  show wpAny _ _ (call (.ref C) [v']) _ _ _
  have lim := I1.nolimit
  obtain ⟨hp, g, dr, tk, os⟩ := s1
  refine wpAny_call (OwnNothingToUndo.made T I1.kIn lim (by have := hr.dp; omega) fun h' tk' e d M => ?_)
  show MkP X pins σ Q (.ref e) ⟨h', g, dr, tk', os⟩
  obtain ⟨oe, fv, hoe, hc, hd, hdat, h1⟩ := M.obj
  obtain ⟨G', g1, g2⟩ := restrict h' fun b => decide (b ≠ e)
  have gk : ∀ b, b ≠ e → G'.get? b = h'.get? b := fun b hb => g1 b (decide_eq_true hb)
  have ge : G'.get? e = none := g2 e (by simp)
  have old : ∀ b o, hp.get? b = some o → G'.get? b = some o := fun b o q => (gk b (Nat.ne_of_lt (Nat.lt_of_lt_of_le (Heap.lt_size q) M.new))).trans (M.keep b o q)
  have ob : ObjOk X.prog X.w (upd H1 d (.xd [(("many" : Str), v)])) G' d (.xd [(("many" : Str), v)]) := ⟨_, M.ns.at (fun o q => (gk d M.dne).trans q), fun f => relO rv f⟩
  have J : Inv X pins σ (upd H1 d (.xd [(("many" : Str), v)])) ⟨G', g, dr, tk', os⟩ := I1.laid (t' := tk') old M.dbig ob
  refine ⟨e, oe, fv, ⟨G', g, dr, tk', os⟩, _, .ref C, some d, rfl, J, fun b o q => ?_, ge, hoe, ⟨hc, hd⟩, hdat, h1, ?_, rfl, I1.bare, raises_own T.exC T.tyC, q1 d (I1.hok.fresh M.dbig)⟩
  · have q' : G'.get? b = some o := q
    by_cases hb : b = e
    · rw [hb, ge] at q'
      cases q'
    · exact (gk b hb).symm.trans q'
  · rw [upd_ne (Ne.symm M.dne)]
    exact I1.hok.fresh M.new
/-- NothingToUndo(e) as a value -/
theorem pe_mkv {a : Expr} {ta : TA} {p pos : Pos} {k : Nat} (T : OwnNothingToUndo.Txt X.K X.mg C fI) (hr : Room k X.A) (hg : Gl X "NothingToUndo") (ha : PA X [a] ta)
    (he : starEach (a :: []) X.env = (false, eval a X.env) :: starEach [] X.env := by rfl) (hpl : (backTo pos (starEach [] X.env)).any (·.1) = false := by rfl) :
    PE X (.Call (.Name "NothingToUndo" p) [a] [] pos) (fun σ H Q => ta σ H fun vs H1 => ∃ v, vs = [v] ∧ ∀ d e, H1 d = none → H1 e = none → d ≠ e → Q (.ref e) (upd (upd H1 d (.xd [(("many" : Str), v)])) e (G.ExD C d e))) := by
  refine ⟨fun pins s σ H Q I h => wpAny_Call_Name_kw (ld_glob I hg T.gC ?_)⟩
  refine PySem.W.callWith_K (h₀ := X.base) I.ok.mod.kin T.kC (thn (ha.run pos pins s σ H _ I h) fun us s1 ⟨vs, H1, I1, r1, v, ev, q1⟩ => ?_) he hpl
  subst ev
  obtain ⟨v', rfl, rv⟩ := vals1 r1
  refine ⟨I1.kIn, ?_⟩
  have lim := I1.nolimit
  obtain ⟨hp, g, dr, tk, os⟩ := s1
  refine wpAny_call (OwnNothingToUndo.made T I1.kIn lim (by have := hr.dp; omega) fun h' tk' e d M => ?_)
  obtain ⟨oe, fv, hoe, hc, hd, hdat, h1⟩ := M.obj
  obtain ⟨G', g1, g2⟩ := restrict h' fun b => decide (b ≠ e)
  have gk : ∀ b, b ≠ e → G'.get? b = h'.get? b := fun b hb => g1 b (decide_eq_true hb)
  have ge : G'.get? e = none := g2 e (by simp)
  have J : Inv X pins σ (upd H1 d (.xd [(("many" : Str), v)])) ⟨G', g, dr, tk', os⟩ := I1.laid (t' := tk') (fun b o q => (gk b (Nat.ne_of_lt (Nat.lt_of_lt_of_le (Heap.lt_size q) M.new))).trans (M.keep b o q)) M.dbig ⟨_, M.ns.at (fun o q => (gk d M.dne).trans q), fun f => relO rv f⟩
  have He : H1 e = none := I1.hok.fresh M.new
  have He2 : upd H1 d (.xd [(("many" : Str), v)]) e = none := by rw [upd_ne (Ne.symm M.dne)]; exact He
  have J2 : Inv X pins σ (upd (upd H1 d (.xd [(("many" : Str), v)])) e (G.ExD C d e)) ⟨h', g, dr, tk', os⟩ := J.laidN (t' := tk') (fun b u q => by
      by_cases hb : b = e
      · rw [hb, show G'.get? e = none from ge] at q
        cases q
      · exact (gk b hb).symm.trans q) ge He2 ⟨⟨oe, fv, hoe, ⟨hc, hd⟩, hdat⟩, ⟨oe, hoe⟩, fun _ _ ⟨o, v, q, r⟩ k => ⟨o, v, k o q, r⟩⟩
  exact ⟨.ref e, _, J2, rfl, q1 d e (I1.hok.fresh M.dbig) He M.dne⟩
/-- n.many of such a value -/
theorem pe_fldv {e : Expr} {te : TE} {pos : Pos} (T : OwnNothingToUndo.Txt X.K X.mg C fI) (he : PE X e te) (hb : attributeBase e "many" X.env (eval e X.env) = eval e X.env := by rfl) :
    PE X (.Attribute e "many" pos) (fun σ H Q => te σ H fun x H1 => ∃ (a dd : Addr) (v : V), x = .ref a ∧ G.IsE H1 a C (some dd) ∧ H1 dd = some (.xd [(("many" : Str), v)]) ∧ Q v H1) := by
  refine ⟨fun pins s σ H Q I h => attr_of hb (thn (he.run pins s σ H _ I h) fun u s1 ⟨x, H1, I1, rx, a, dd, v, ex, ie, ea, q⟩ => ?_)⟩
  subst ex
  obtain rfl : u = Value.ref a := rx
  obtain ⟨φ, hφ, kφ⟩ := ie
  obtain ⟨z, _, _⟩ := I1.hok a _ hφ
  obtain ⟨oe, vs, ho1, hz, hdt⟩ := kφ _ z
  obtain ⟨mA, hns, hr⟩ : ObjOk X.prog X.w H1 s1.heap dd (.xd [(("many" : Str), v)]) := I1.hok dd _ ea
  obtain ⟨od, ho, hl⟩ := lookIn_ns hns
  obtain ⟨u, hu, ru⟩ := RelO.some_of (v := v) (o := mA "many") (by rw [← show List.lookup ("many" : Str) [(("many" : Str), v)] = some v by simp [List.lookup]]; exact hr "many")
  have J : PySem.W.InstAt s1.heap a oe C (some od) := ⟨ho1, hz.1, by unfold PySem.W.notCls; rw [hdt] <;> rfl, by rw [hz.2]; exact ho⟩
  exact PySem.HandSPX.exc_get I1.kIn J T.ga T.gg T.exC (PySem.W.findObj_own T.hdC T.noN rfl (by rw [hl, hu])) (handed_of ru) ⟨v, H1, I1.tok _, ru, q⟩
/-- n.many, n the exception that the suite holds at a -/
def tFld (C : Addr) (a : Addr) (cls : Value) (d : Option Addr) (te : TE) : TE := fun σ H Q => te σ H fun x H1 => x = .ref a ∧ cls = .ref C ∧ ∃ (dd : Addr) (v : V), d = some dd ∧ H1 dd = some (.xd [(("many" : Str), v)]) ∧ Q v H1
theorem pe_fld {a : Addr} {oe : Obj} {cls : Value} {d : Option Addr} {pn : List (Addr × Obj)} {e : Expr} {te : TE} {pos : Pos} (T : OwnNothingToUndo.Txt X.K X.mg C fI) (hz : Zc cls d oe) (hf : ∃ vs, oe.data = .fields vs) (he : PE (X.suite a ((a, oe) :: pn)) e te)
    (hb : attributeBase e "many" X.env (eval e X.env) = eval e X.env := by rfl) :
    PE (X.suite a ((a, oe) :: pn)) (.Attribute e "many" pos) (tFld C a cls d te) := by
  refine ⟨fun pins s σ H Q I h => ?_⟩
  refine attr_of hb (thn (he.run pins s σ H _ I h) fun u s1 ⟨x, H1, I1, rx, ex, ec, dd, v, ed, ea, q⟩ => ?_)
  subst ex ec ed
  obtain rfl : u = Value.ref a := rx
  obtain ⟨ha, _⟩ := I1.pin (a, oe) (List.mem_append_left _ List.mem_cons_self)
  obtain ⟨vs, hd⟩ := hf
  have hx : ObjOk X.prog X.w H1 s1.heap dd (.xd [(("many" : Str), v)]) := I1.hok dd _ ea
  obtain ⟨mA, hns, hr⟩ := hx
  obtain ⟨od, ho, hl⟩ := lookIn_ns hns
  have l : List.lookup ("many" : Str) [(("many" : Str), v)] = some v := by simp [List.lookup]
  obtain ⟨u, hu, ru⟩ := RelO.some_of (v := v) (o := mA "many") (by rw [← l]; exact hr "many")
  have J : PySem.W.InstAt s1.heap a oe C (some od) := ⟨ha, hz.1, by unfold PySem.W.notCls; rw [hd] <;> rfl, by rw [hz.2]; exact ho⟩
  exact PySem.HandSPX.exc_get I1.kIn J T.ga T.gg T.exC (PySem.W.findObj_own T.hdC T.noN rfl (by rw [hl, hu])) (handed_of ru) ⟨v, H1, I1.tok _, ru, q⟩
end
end OwnNothingToUndo

/-! ## the error TooMany of the text: over OverflowError, its own __init__ keeps limit (after the guide's skeleton 42, for any base) -/
namespace OwnTooMany
open PySem PySem.W PySem.Calls PyProof.Rows PySem.HandSPX
def iA (p1 p2 : Pos) : Arguments := { posonlyargs := [], args := [{ arg := "self", annotation := none, pos := p1 }, { arg := "limit", annotation := none, pos := p2 }], vararg := none, kwonlyargs := [], kw_defaults := [], kwarg := none, defaults := [] }
def iB (q1 q2 q3 q4 : Pos) : List Stmt := [.Assign [.Attribute (.Name "self" q1) "limit" q2] (.Name "limit" q3) q4]
def iS : Scope := { kind := .function, names := [(PySem.Str.ofString "self", .local), (PySem.Str.ofString "limit", .local)], isGenerator := false, isCoroutine := false, more := [] }
abbrev bmB : List Value := [.type "OverflowError", .type "ArithmeticError", .type "Exception", .type "BaseException", .type "object"]
structure Txt (K : Frag) (mg : Str → Option Value) (C fI : Addr) : Prop where
  gC : mg "TooMany" = some (.ref C)
  cls : ∃ nm q N bs bm sn sub ab col dd k0 k1 k2 k3 k5, K.lookup C = some (excClassObj nm q C N bs bm true sn sub ab col dd k0 k1 k2 k3 k5 "OverflowError.__new__") ∧ excTail bmB bm = true
  ov : excOver K C bmB = true
  sa : findIn K (.ref C) "__setattr__" = some (some (.builtin "object.__setattr__"))
  ga : findIn K (.ref C) "__getattribute__" = some (some (.builtin "BaseException.__getattribute__"))
  gg : findIn K (.ref C) "__getattr__" = some none
  noN : findIn K (.ref C) "limit" = some none
  tkN : takerIn K C "limit" = some none
  iC : findIn K (.ref C) "__init__" = some (some (.ref fI))
  tC : typeIn K (.ref fI) = some (.type "function")
  kC : keepIn K (.ref C) = true
  exC : subIn K (.ref C) (.type "BaseException") = some true
  tyC : typeIn K (.ref C) = some (.type "type")
  hdC : hasDictIn K C = true
  te : exmOne K (.ref C) (.ref C) = some true
  fn : ∃ (oc : Value) (od : Option Addr) (doc pm : Value) (an : Option Addr) (cdv ct : Value) (osl : Array (Option Value)) (p1 p2 q1 q2 q3 q4 : Pos),
    K.lookup fI = some ⟨oc, od, .func (fnOf "__init__" "TooMany.__init__" (iA p1 p2) (iB q1 q2 q3 q4) iS .none .none doc pm an cdv ct), osl⟩ ∧ codeIn K cdv "TooMany.__init__" = true
theorem mk_txt {K : Frag} {h : Heap} {mg : Str → Option Value} {C fI : Addr} {nm q : Str} {N : Addr} {bs bm : List Value} {sn : List Str} {sub : List Value} {ab : Bool} {col : Option Bool} {dd : Option Addr} {k0 k1 k2 k3 k5 : Option Value}
    {oc : Value} {od : Option Addr} {doc pm : Value} {an : Option Addr} {cdv ct : Value} {osl : Array (Option Value)} {p1 p2 q1 q2 q3 q4 : Pos} (X : K.In h) (G : h.Ns mainGlobals mg)
    (gC : nsIn K mainGlobals "TooMany" = some (some (.ref C))) (cls : K.lookup C = some (excClassObj nm q C N bs bm true sn sub ab col dd k0 k1 k2 k3 k5 "OverflowError.__new__")) (tl : excTail bmB bm = true)
    (ov : excOver K C bmB = true) (sa : findIn K (.ref C) "__setattr__" = some (some (.builtin "object.__setattr__"))) (ga : findIn K (.ref C) "__getattribute__" = some (some (.builtin "BaseException.__getattribute__")))
    (gg : findIn K (.ref C) "__getattr__" = some none) (noN : findIn K (.ref C) "limit" = some none) (tkN : takerIn K C "limit" = some none) (iC : findIn K (.ref C) "__init__" = some (some (.ref fI)))
    (tC : typeIn K (.ref fI) = some (.type "function")) (kC : keepIn K (.ref C) = true) (exC : subIn K (.ref C) (.type "BaseException") = some true) (tyC : typeIn K (.ref C) = some (.type "type")) (hdC : hasDictIn K C = true) (te : exmOne K (.ref C) (.ref C) = some true)
    (fn : K.lookup fI = some ⟨oc, od, .func (fnOf "__init__" "TooMany.__init__" (iA p1 p2) (iB q1 q2 q3 q4) iS .none .none doc pm an cdv ct), osl⟩) (cd : codeIn K cdv "TooMany.__init__" = true) : Txt K mg C fI :=
  ⟨mg_of X G gC, ⟨_, _, _, _, _, _, _, _, _, _, _, _, _, _, _, cls, tl⟩, ov, sa, ga, gg, noN, tkN, iC, tC, kC, exC, tyC, hdC, te, ⟨_, _, _, _, _, _, _, _, _, _, _, _, _, _, fn, cd⟩⟩
structure InitEnd (h h' : Heap) (x C dx t1 : Addr) (v : Value) : Prop where
  keep : ∀ b o, b ≠ x → h.get? b = some o → h'.get? b = some o
  obj : h'.get? x = some { cls := .ref C, dict := some dx, data := .fields #[.ref t1, .none, .none, .none, .bool false, .none] }
  dbig : h.objs.size ≤ dx
  dne : dx ≠ x
  ns : h'.Ns1 dx (fun y => if y = "limit" then some v else none)
structure Made (h h' : Heap) (e C d : Addr) (v : Value) : Prop where
  keep : ∀ b o, h.get? b = some o → h'.get? b = some o
  new : h.objs.size ≤ e
  obj : ∃ oe vs, h'.get? e = some oe ∧ oe.cls = .ref C ∧ oe.dict = some d ∧ oe.data = .fields vs ∧ vs[1]? = some .none
  dbig : h.objs.size ≤ d
  dne : d ≠ e
  ns : h'.Ns1 d (fun y => if y = "limit" then some v else none)
section
variable {prog : Program} {w : World} {A : Around} {E : Value → Shared → Prop} {R : Result → Shared → Prop} {s : Shared} {K : Frag} {mg : Str → Option Value} {C fI : Addr}
theorem init_run (T : Txt K mg C fI) {x t0 : Addr} {v : Value} (X : K.In s.heap) (lim : s.heap.NoLimit) (hx : s.heap.get? x = some (excO C t0)) (room : A.depth < recursionLimit)
    (hq : ∀ h' tk dx, InitEnd s.heap h' x C dx t0 v → R (.ok (.ret .none)) { s with heap := h', toks := tk }) :
    codeAny (model prog w) A (.call (.ref fI) ⟨[.ref x, v], []⟩) R s := by
  obtain ⟨oc, od, doc, pm, an, cdv, ct, osl, p1, p2, q1, q2, q3, q4, ho, hcd⟩ := T.fn
  refine Att.call_fn (binds := [("self", .ref x), ("limit", v)]) X lim ho hcd room (BindsTo.of_eq (by first | rfl | with_unfolding_all rfl)) (by first | rfl | decide | with_unfolding_all rfl) (fun s₁ IC => ?_) rfl rfl rfl
  obtain ⟨h₁, tk₁, rfl⟩ := IC.toInCall.same
  have kp : ∀ b o, s.heap.get? b = some o → h₁.get? b = some o := IC.toInCall.keep
  have hn := IC.toInCall.ns
  have X₁ : K.In h₁ := X.keeps kp
  have hx₁ := kp _ _ hx
  show wpAny _ _ (execs _ _) _ _ _
  refine wpAny_execs_cons (plainObj_wpAny_Assign_Attribute ?_)
  refine G.ld_own (v := v) hn (by first | rfl | with_unfolding_all rfl | kernel_rfl) (G.ld_own (v := .ref x) hn (by first | rfl | with_unfolding_all rfl | kernel_rfl) ?_)
  refine set_plain X₁ (ox := excO C t0) (od := none) ⟨hx₁, rfl, rfl, trivial⟩ T.sa ?_
  refine G.first_store PySem.F.store_OverflowError X₁ hx₁ T.ov T.tkN T.hdC fun h₃ tk₃ dx k₃ dn dne hx₃ hn₃ => ?_
  show wpAny _ _ (execs _ _) _ _ _
  have z : s.heap.objs.size < h₁.objs.size := hn.lt
  exact wpAny_execs_nil (hq h₃ tk₃ dx ⟨fun b o hb e => k₃ b o hb (kp b o e), hx₃, Nat.le_of_lt (Nat.lt_of_lt_of_le z dn), dne, hn₃⟩)
theorem made (T : Txt K mg C fI) {v : Value} (X : K.In s.heap) (lim : s.heap.NoLimit) (room : A.depth + 1 < recursionLimit)
    (hq : ∀ h' tk e d, Made s.heap h' e C d v → R (.ok (.ret (.ref e))) { s with heap := h', toks := tk }) :
    codeAny (model prog w) A (.call (.ref C) ⟨[v], []⟩) R s := by
  obtain ⟨nm, q, N, bs, bm, sn, sub, ab, col, dd, k0, k1, k2, k3, k5, hC, hbm⟩ := T.cls
  obtain ⟨hp, g, dr, tk, os⟩ := s
  have kp : ∀ b o, hp.get? b = some o → ((hp.push (kdv_tup [v])).push (excO C hp.objs.size)).get? b = some o := fun b o e => Heap.get?_push_of_some _ (Heap.get?_push_of_some _ e)
  have hget : ((hp.push (kdv_tup [v])).push (excO C hp.objs.size)).get? (hp.objs.size + 1) = some (excO C hp.objs.size) := by heap_get
  refine call_own PySem.F.excBase_OverflowError (fun Y => excTail_contains Y bm hbm) (X _ _ hC) (looks_findIn X T.iC) (fun self => bind_fn X self T.tC) (by rw [sizeLine_eq]; exact (by decide : 1 ≤ 16777216)) ?_
  refine init_run (s := ⟨(hp.push (kdv_tup [v])).push (excO C hp.objs.size), g, dr, tk, os⟩) T (X.keeps kp) (lim.keeps kp) hget (show A.depth + 1 < recursionLimit from room) fun h' tk' dx ⟨k', hx, dn, dne, hns⟩ => ?_
  have old : ∀ b o, hp.get? b = some o → h'.get? b = some o := fun b o e => k' b o (Nat.ne_of_lt (Nat.lt_succ_of_lt (Heap.lt_size e))) (kp b o e)
  have big : hp.objs.size ≤ dx := by
    have q := dn
    have e1 : ((hp.push (kdv_tup [v])).push (excO C hp.objs.size)).objs.size = hp.objs.size + 1 + 1 := by rw [Heap.size_push, Heap.size_push]
    have q2 : ((hp.push (kdv_tup [v])).push (excO C hp.objs.size)).objs.size ≤ dx := q
    rw [e1] at q2
    exact Nat.le_trans (Nat.le_trans (Nat.le_succ _) (Nat.le_succ _)) q2
  exact ⟨rfl, hq h' tk' (hp.objs.size + 1) dx ⟨old, Nat.le_succ _, ⟨_, _, hx, rfl, rfl, rfl, rfl⟩, big, dne, hns⟩⟩
end
end OwnTooMany
namespace OwnTooMany
open PySem PySem.Spec PyProof.Rows L2
theorem relO {v : V} {v' : Value} (r : RelV v v') (f : Str) : RelO (List.lookup f [(("limit" : Str), v)]) (if f = "limit" then some v' else none) := by
  by_cases hw : f = "limit"
  · subst hw
    rw [if_pos rfl, show List.lookup ("limit" : Str) [(("limit" : Str), v)] = some v by simp [List.lookup]]
    exact r
  · rw [if_neg hw]
    have qw : (f == ("limit" : Str)) = false := by simpa using hw
    rw [show List.lookup f [(("limit" : Str), v)] = none by simp [List.lookup, qw]]
    trivial
section
variable {X : Cx} {C fI : Addr}
/-- TooMany(e) -/
def tMk (C : Addr) (ta : TA) : L2.St → Hp → XK → Prop := fun σ H Q => ta σ H fun vs H1 => ∃ v, vs = [v] ∧ ∀ d, H1 d = none → Q (.ref C) (some d) (upd H1 d (.xd [(("limit" : Str), v)]))
theorem pmk {a : Expr} {ta : TA} {p pos : Pos} {k : Nat} (T : OwnTooMany.Txt X.K X.mg C fI) (hr : Room k X.A) (hg : Gl X "TooMany") (ha : PA X [a] ta)
    (he : starEach (a :: []) X.env = (false, eval a X.env) :: starEach [] X.env := by rfl) (hpl : (backTo pos (starEach [] X.env)).any (·.1) = false := by rfl) :
    PMk X (.Call (.Name "TooMany" p) [a] [] pos) (tMk C ta) := by
  intro pins s σ H Q I h
  refine wpAny_Call_Name_kw (ld_glob I hg T.gC ?_)
  refine PySem.W.callWith_K (h₀ := X.base) I.ok.mod.kin T.kC (thn (ha.run pos pins s σ H _ I h) fun us s1 ⟨vs, H1, I1, r1, v, ev, q1⟩ => ?_) he hpl
  subst ev
  refine ⟨I1.kIn, ?_⟩
  obtain ⟨v', rfl, rv⟩ := vals1 r1
  show wpAny _ _ (call (.ref C) [v']) _ _ _
  have lim := I1.nolimit
  obtain ⟨hp, g, dr, tk, os⟩ := s1
  refine wpAny_call (OwnTooMany.made T I1.kIn lim (by have := hr.dp; omega) fun h' tk' e d M => ?_)
  show MkP X pins σ Q (.ref e) ⟨h', g, dr, tk', os⟩
  obtain ⟨oe, fv, hoe, hc, hd, hdat, h1⟩ := M.obj
  obtain ⟨G', g1, g2⟩ := restrict h' fun b => decide (b ≠ e)
  have gk : ∀ b, b ≠ e → G'.get? b = h'.get? b := fun b hb => g1 b (decide_eq_true hb)
  have ge : G'.get? e = none := g2 e (by simp)
  have old : ∀ b o, hp.get? b = some o → G'.get? b = some o := fun b o q => (gk b (Nat.ne_of_lt (Nat.lt_of_lt_of_le (Heap.lt_size q) M.new))).trans (M.keep b o q)
  have ob : ObjOk X.prog X.w (upd H1 d (.xd [(("limit" : Str), v)])) G' d (.xd [(("limit" : Str), v)]) := ⟨_, M.ns.at (fun o q => (gk d M.dne).trans q), fun f => relO rv f⟩
  have J : Inv X pins σ (upd H1 d (.xd [(("limit" : Str), v)])) ⟨G', g, dr, tk', os⟩ := I1.laid (t' := tk') old M.dbig ob
  refine ⟨e, oe, fv, ⟨G', g, dr, tk', os⟩, _, .ref C, some d, rfl, J, fun b o q => ?_, ge, hoe, ⟨hc, hd⟩, hdat, h1, ?_, rfl, I1.bare, raises_own T.exC T.tyC, q1 d (I1.hok.fresh M.dbig)⟩
  · have q' : G'.get? b = some o := q
    by_cases hb : b = e
    · rw [hb, ge] at q'
      cases q'
    · exact (gk b hb).symm.trans q'
  · rw [upd_ne (Ne.symm M.dne)]
    exact I1.hok.fresh M.new
/-- TooMany(e) as a value -/
theorem pe_mkv {a : Expr} {ta : TA} {p pos : Pos} {k : Nat} (T : OwnTooMany.Txt X.K X.mg C fI) (hr : Room k X.A) (hg : Gl X "TooMany") (ha : PA X [a] ta)
    (he : starEach (a :: []) X.env = (false, eval a X.env) :: starEach [] X.env := by rfl) (hpl : (backTo pos (starEach [] X.env)).any (·.1) = false := by rfl) :
    PE X (.Call (.Name "TooMany" p) [a] [] pos) (fun σ H Q => ta σ H fun vs H1 => ∃ v, vs = [v] ∧ ∀ d e, H1 d = none → H1 e = none → d ≠ e → Q (.ref e) (upd (upd H1 d (.xd [(("limit" : Str), v)])) e (G.ExD C d e))) := by
  refine ⟨fun pins s σ H Q I h => wpAny_Call_Name_kw (ld_glob I hg T.gC ?_)⟩
  refine PySem.W.callWith_K (h₀ := X.base) I.ok.mod.kin T.kC (thn (ha.run pos pins s σ H _ I h) fun us s1 ⟨vs, H1, I1, r1, v, ev, q1⟩ => ?_) he hpl
  subst ev
  obtain ⟨v', rfl, rv⟩ := vals1 r1
  refine ⟨I1.kIn, ?_⟩
  have lim := I1.nolimit
  obtain ⟨hp, g, dr, tk, os⟩ := s1
  refine wpAny_call (OwnTooMany.made T I1.kIn lim (by have := hr.dp; omega) fun h' tk' e d M => ?_)
  obtain ⟨oe, fv, hoe, hc, hd, hdat, h1⟩ := M.obj
  obtain ⟨G', g1, g2⟩ := restrict h' fun b => decide (b ≠ e)
  have gk : ∀ b, b ≠ e → G'.get? b = h'.get? b := fun b hb => g1 b (decide_eq_true hb)
  have ge : G'.get? e = none := g2 e (by simp)
  have J : Inv X pins σ (upd H1 d (.xd [(("limit" : Str), v)])) ⟨G', g, dr, tk', os⟩ := I1.laid (t' := tk') (fun b o q => (gk b (Nat.ne_of_lt (Nat.lt_of_lt_of_le (Heap.lt_size q) M.new))).trans (M.keep b o q)) M.dbig ⟨_, M.ns.at (fun o q => (gk d M.dne).trans q), fun f => relO rv f⟩
  have He : H1 e = none := I1.hok.fresh M.new
  have He2 : upd H1 d (.xd [(("limit" : Str), v)]) e = none := by rw [upd_ne (Ne.symm M.dne)]; exact He
  have J2 : Inv X pins σ (upd (upd H1 d (.xd [(("limit" : Str), v)])) e (G.ExD C d e)) ⟨h', g, dr, tk', os⟩ := J.laidN (t' := tk') (fun b u q => by
      by_cases hb : b = e
      · rw [hb, show G'.get? e = none from ge] at q
        cases q
      · exact (gk b hb).symm.trans q) ge He2 ⟨⟨oe, fv, hoe, ⟨hc, hd⟩, hdat⟩, ⟨oe, hoe⟩, fun _ _ ⟨o, v, q, r⟩ k => ⟨o, v, k o q, r⟩⟩
  exact ⟨.ref e, _, J2, rfl, q1 d e (I1.hok.fresh M.dbig) He M.dne⟩
/-- n.limit of such a value -/
theorem pe_fldv {e : Expr} {te : TE} {pos : Pos} (T : OwnTooMany.Txt X.K X.mg C fI) (he : PE X e te) (hb : attributeBase e "limit" X.env (eval e X.env) = eval e X.env := by rfl) :
    PE X (.Attribute e "limit" pos) (fun σ H Q => te σ H fun x H1 => ∃ (a dd : Addr) (v : V), x = .ref a ∧ G.IsE H1 a C (some dd) ∧ H1 dd = some (.xd [(("limit" : Str), v)]) ∧ Q v H1) := by
  refine ⟨fun pins s σ H Q I h => attr_of hb (thn (he.run pins s σ H _ I h) fun u s1 ⟨x, H1, I1, rx, a, dd, v, ex, ie, ea, q⟩ => ?_)⟩
  subst ex
  obtain rfl : u = Value.ref a := rx
  obtain ⟨φ, hφ, kφ⟩ := ie
  obtain ⟨z, _, _⟩ := I1.hok a _ hφ
  obtain ⟨oe, vs, ho1, hz, hdt⟩ := kφ _ z
  obtain ⟨mA, hns, hr⟩ : ObjOk X.prog X.w H1 s1.heap dd (.xd [(("limit" : Str), v)]) := I1.hok dd _ ea
  obtain ⟨od, ho, hl⟩ := lookIn_ns hns
  obtain ⟨u, hu, ru⟩ := RelO.some_of (v := v) (o := mA "limit") (by rw [← show List.lookup ("limit" : Str) [(("limit" : Str), v)] = some v by simp [List.lookup]]; exact hr "limit")
  have J : PySem.W.InstAt s1.heap a oe C (some od) := ⟨ho1, hz.1, by unfold PySem.W.notCls; rw [hdt] <;> rfl, by rw [hz.2]; exact ho⟩
  exact PySem.HandSPX.exc_get I1.kIn J T.ga T.gg T.exC (PySem.W.findObj_own T.hdC T.noN rfl (by rw [hl, hu])) (handed_of ru) ⟨v, H1, I1.tok _, ru, q⟩
/-- n.limit, n the exception that the suite holds at a -/
def tFld (C : Addr) (a : Addr) (cls : Value) (d : Option Addr) (te : TE) : TE := fun σ H Q => te σ H fun x H1 => x = .ref a ∧ cls = .ref C ∧ ∃ (dd : Addr) (v : V), d = some dd ∧ H1 dd = some (.xd [(("limit" : Str), v)]) ∧ Q v H1
theorem pe_fld {a : Addr} {oe : Obj} {cls : Value} {d : Option Addr} {pn : List (Addr × Obj)} {e : Expr} {te : TE} {pos : Pos} (T : OwnTooMany.Txt X.K X.mg C fI) (hz : Zc cls d oe) (hf : ∃ vs, oe.data = .fields vs) (he : PE (X.suite a ((a, oe) :: pn)) e te)
    (hb : attributeBase e "limit" X.env (eval e X.env) = eval e X.env := by rfl) :
    PE (X.suite a ((a, oe) :: pn)) (.Attribute e "limit" pos) (tFld C a cls d te) := by
  refine ⟨fun pins s σ H Q I h => ?_⟩
  refine attr_of hb (thn (he.run pins s σ H _ I h) fun u s1 ⟨x, H1, I1, rx, ex, ec, dd, v, ed, ea, q⟩ => ?_)
  subst ex ec ed
  obtain rfl : u = Value.ref a := rx
  obtain ⟨ha, _⟩ := I1.pin (a, oe) (List.mem_append_left _ List.mem_cons_self)
  obtain ⟨vs, hd⟩ := hf
  have hx : ObjOk X.prog X.w H1 s1.heap dd (.xd [(("limit" : Str), v)]) := I1.hok dd _ ea
  obtain ⟨mA, hns, hr⟩ := hx
  obtain ⟨od, ho, hl⟩ := lookIn_ns hns
  have l : List.lookup ("limit" : Str) [(("limit" : Str), v)] = some v := by simp [List.lookup]
  obtain ⟨u, hu, ru⟩ := RelO.some_of (v := v) (o := mA "limit") (by rw [← l]; exact hr "limit")
  have J : PySem.W.InstAt s1.heap a oe C (some od) := ⟨ha, hz.1, by unfold PySem.W.notCls; rw [hd] <;> rfl, by rw [hz.2]; exact ho⟩
  exact PySem.HandSPX.exc_get I1.kIn J T.ga T.gg T.exC (PySem.W.findObj_own T.hdC T.noN rfl (by rw [hl, hu])) (handed_of ru) ⟨v, H1, I1.tok _, ru, q⟩
end
end OwnTooMany

/-! ## the error Refused of the text: over ArithmeticError, its own __init__ keeps pledge (after the guide's skeleton 42, for any base) -/
namespace OwnRefused
open PySem PySem.W PySem.Calls PyProof.Rows PySem.HandSPX
def iA (p1 p2 : Pos) : Arguments := { posonlyargs := [], args := [{ arg := "self", annotation := none, pos := p1 }, { arg := "pledge", annotation := none, pos := p2 }], vararg := none, kwonlyargs := [], kw_defaults := [], kwarg := none, defaults := [] }
def iB (q1 q2 q3 q4 : Pos) : List Stmt := [.Assign [.Attribute (.Name "self" q1) "pledge" q2] (.Name "pledge" q3) q4]
def iS : Scope := { kind := .function, names := [(PySem.Str.ofString "self", .local), (PySem.Str.ofString "pledge", .local)], isGenerator := false, isCoroutine := false, more := [] }
abbrev bmB : List Value := [.type "ArithmeticError", .type "Exception", .type "BaseException", .type "object"]
structure Txt (K : Frag) (mg : Str → Option Value) (C fI : Addr) : Prop where
  gC : mg "Refused" = some (.ref C)
  cls : ∃ nm q N bs bm sn sub ab col dd k0 k1 k2 k3 k5, K.lookup C = some (excClassObj nm q C N bs bm true sn sub ab col dd k0 k1 k2 k3 k5 "ArithmeticError.__new__") ∧ excTail bmB bm = true
  ov : excOver K C bmB = true
  sa : findIn K (.ref C) "__setattr__" = some (some (.builtin "object.__setattr__"))
  ga : findIn K (.ref C) "__getattribute__" = some (some (.builtin "BaseException.__getattribute__"))
  gg : findIn K (.ref C) "__getattr__" = some none
  noN : findIn K (.ref C) "pledge" = some none
  tkN : takerIn K C "pledge" = some none
  iC : findIn K (.ref C) "__init__" = some (some (.ref fI))
  tC : typeIn K (.ref fI) = some (.type "function")
  kC : keepIn K (.ref C) = true
  exC : subIn K (.ref C) (.type "BaseException") = some true
  tyC : typeIn K (.ref C) = some (.type "type")
  hdC : hasDictIn K C = true
  te : exmOne K (.ref C) (.ref C) = some true
  fn : ∃ (oc : Value) (od : Option Addr) (doc pm : Value) (an : Option Addr) (cdv ct : Value) (osl : Array (Option Value)) (p1 p2 q1 q2 q3 q4 : Pos),
    K.lookup fI = some ⟨oc, od, .func (fnOf "__init__" "Refused.__init__" (iA p1 p2) (iB q1 q2 q3 q4) iS .none .none doc pm an cdv ct), osl⟩ ∧ codeIn K cdv "Refused.__init__" = true
theorem mk_txt {K : Frag} {h : Heap} {mg : Str → Option Value} {C fI : Addr} {nm q : Str} {N : Addr} {bs bm : List Value} {sn : List Str} {sub : List Value} {ab : Bool} {col : Option Bool} {dd : Option Addr} {k0 k1 k2 k3 k5 : Option Value}
    {oc : Value} {od : Option Addr} {doc pm : Value} {an : Option Addr} {cdv ct : Value} {osl : Array (Option Value)} {p1 p2 q1 q2 q3 q4 : Pos} (X : K.In h) (G : h.Ns mainGlobals mg)
    (gC : nsIn K mainGlobals "Refused" = some (some (.ref C))) (cls : K.lookup C = some (excClassObj nm q C N bs bm true sn sub ab col dd k0 k1 k2 k3 k5 "ArithmeticError.__new__")) (tl : excTail bmB bm = true)
    (ov : excOver K C bmB = true) (sa : findIn K (.ref C) "__setattr__" = some (some (.builtin "object.__setattr__"))) (ga : findIn K (.ref C) "__getattribute__" = some (some (.builtin "BaseException.__getattribute__")))
    (gg : findIn K (.ref C) "__getattr__" = some none) (noN : findIn K (.ref C) "pledge" = some none) (tkN : takerIn K C "pledge" = some none) (iC : findIn K (.ref C) "__init__" = some (some (.ref fI)))
    (tC : typeIn K (.ref fI) = some (.type "function")) (kC : keepIn K (.ref C) = true) (exC : subIn K (.ref C) (.type "BaseException") = some true) (tyC : typeIn K (.ref C) = some (.type "type")) (hdC : hasDictIn K C = true) (te : exmOne K (.ref C) (.ref C) = some true)
    (fn : K.lookup fI = some ⟨oc, od, .func (fnOf "__init__" "Refused.__init__" (iA p1 p2) (iB q1 q2 q3 q4) iS .none .none doc pm an cdv ct), osl⟩) (cd : codeIn K cdv "Refused.__init__" = true) : Txt K mg C fI :=
  ⟨mg_of X G gC, ⟨_, _, _, _, _, _, _, _, _, _, _, _, _, _, _, cls, tl⟩, ov, sa, ga, gg, noN, tkN, iC, tC, kC, exC, tyC, hdC, te, ⟨_, _, _, _, _, _, _, _, _, _, _, _, _, _, fn, cd⟩⟩
structure InitEnd (h h' : Heap) (x C dx t1 : Addr) (v : Value) : Prop where
  keep : ∀ b o, b ≠ x → h.get? b = some o → h'.get? b = some o
  obj : h'.get? x = some { cls := .ref C, dict := some dx, data := .fields #[.ref t1, .none, .none, .none, .bool false, .none] }
  dbig : h.objs.size ≤ dx
  dne : dx ≠ x
  ns : h'.Ns1 dx (fun y => if y = "pledge" then some v else none)
structure Made (h h' : Heap) (e C d : Addr) (v : Value) : Prop where
  keep : ∀ b o, h.get? b = some o → h'.get? b = some o
  new : h.objs.size ≤ e
  obj : ∃ oe vs, h'.get? e = some oe ∧ oe.cls = .ref C ∧ oe.dict = some d ∧ oe.data = .fields vs ∧ vs[1]? = some .none
  dbig : h.objs.size ≤ d
  dne : d ≠ e
  ns : h'.Ns1 d (fun y => if y = "pledge" then some v else none)
section
variable {prog : Program} {w : World} {A : Around} {E : Value → Shared → Prop} {R : Result → Shared → Prop} {s : Shared} {K : Frag} {mg : Str → Option Value} {C fI : Addr}
theorem init_run (T : Txt K mg C fI) {x t0 : Addr} {v : Value} (X : K.In s.heap) (lim : s.heap.NoLimit) (hx : s.heap.get? x = some (excO C t0)) (room : A.depth < recursionLimit)
    (hq : ∀ h' tk dx, InitEnd s.heap h' x C dx t0 v → R (.ok (.ret .none)) { s with heap := h', toks := tk }) :
    codeAny (model prog w) A (.call (.ref fI) ⟨[.ref x, v], []⟩) R s := by
  obtain ⟨oc, od, doc, pm, an, cdv, ct, osl, p1, p2, q1, q2, q3, q4, ho, hcd⟩ := T.fn
  refine Att.call_fn (binds := [("self", .ref x), ("pledge", v)]) X lim ho hcd room (BindsTo.of_eq (by first | rfl | with_unfolding_all rfl)) (by first | rfl | decide | with_unfolding_all rfl) (fun s₁ IC => ?_) rfl rfl rfl
  obtain ⟨h₁, tk₁, rfl⟩ := IC.toInCall.same
  have kp : ∀ b o, s.heap.get? b = some o → h₁.get? b = some o := IC.toInCall.keep
  have hn := IC.toInCall.ns
  have X₁ : K.In h₁ := X.keeps kp
  have hx₁ := kp _ _ hx
  show wpAny _ _ (execs _ _) _ _ _
  refine wpAny_execs_cons (plainObj_wpAny_Assign_Attribute ?_)
  refine G.ld_own (v := v) hn (by first | rfl | with_unfolding_all rfl | kernel_rfl) (G.ld_own (v := .ref x) hn (by first | rfl | with_unfolding_all rfl | kernel_rfl) ?_)
  refine set_plain X₁ (ox := excO C t0) (od := none) ⟨hx₁, rfl, rfl, trivial⟩ T.sa ?_
  refine G.first_store PySem.F.store_ArithmeticError X₁ hx₁ T.ov T.tkN T.hdC fun h₃ tk₃ dx k₃ dn dne hx₃ hn₃ => ?_
  show wpAny _ _ (execs _ _) _ _ _
  have z : s.heap.objs.size < h₁.objs.size := hn.lt
  exact wpAny_execs_nil (hq h₃ tk₃ dx ⟨fun b o hb e => k₃ b o hb (kp b o e), hx₃, Nat.le_of_lt (Nat.lt_of_lt_of_le z dn), dne, hn₃⟩)
theorem made (T : Txt K mg C fI) {v : Value} (X : K.In s.heap) (lim : s.heap.NoLimit) (room : A.depth + 1 < recursionLimit)
    (hq : ∀ h' tk e d, Made s.heap h' e C d v → R (.ok (.ret (.ref e))) { s with heap := h', toks := tk }) :
    codeAny (model prog w) A (.call (.ref C) ⟨[v], []⟩) R s := by
  obtain ⟨nm, q, N, bs, bm, sn, sub, ab, col, dd, k0, k1, k2, k3, k5, hC, hbm⟩ := T.cls
  obtain ⟨hp, g, dr, tk, os⟩ := s
  have kp : ∀ b o, hp.get? b = some o → ((hp.push (kdv_tup [v])).push (excO C hp.objs.size)).get? b = some o := fun b o e => Heap.get?_push_of_some _ (Heap.get?_push_of_some _ e)
  have hget : ((hp.push (kdv_tup [v])).push (excO C hp.objs.size)).get? (hp.objs.size + 1) = some (excO C hp.objs.size) := by heap_get
  refine call_own PySem.F.excBase_ArithmeticError (fun Y => excTail_contains Y bm hbm) (X _ _ hC) (looks_findIn X T.iC) (fun self => bind_fn X self T.tC) (by rw [sizeLine_eq]; exact (by decide : 1 ≤ 16777216)) ?_
  refine init_run (s := ⟨(hp.push (kdv_tup [v])).push (excO C hp.objs.size), g, dr, tk, os⟩) T (X.keeps kp) (lim.keeps kp) hget (show A.depth + 1 < recursionLimit from room) fun h' tk' dx ⟨k', hx, dn, dne, hns⟩ => ?_
  have old : ∀ b o, hp.get? b = some o → h'.get? b = some o := fun b o e => k' b o (Nat.ne_of_lt (Nat.lt_succ_of_lt (Heap.lt_size e))) (kp b o e)
  have big : hp.objs.size ≤ dx := by
    have q := dn
    have e1 : ((hp.push (kdv_tup [v])).push (excO C hp.objs.size)).objs.size = hp.objs.size + 1 + 1 := by rw [Heap.size_push, Heap.size_push]
    have q2 : ((hp.push (kdv_tup [v])).push (excO C hp.objs.size)).objs.size ≤ dx := q
    rw [e1] at q2
    exact Nat.le_trans (Nat.le_trans (Nat.le_succ _) (Nat.le_succ _)) q2
  exact ⟨rfl, hq h' tk' (hp.objs.size + 1) dx ⟨old, Nat.le_succ _, ⟨_, _, hx, rfl, rfl, rfl, rfl⟩, big, dne, hns⟩⟩
end
end OwnRefused
namespace OwnRefused
open PySem PySem.Spec PyProof.Rows L2
theorem relO {v : V} {v' : Value} (r : RelV v v') (f : Str) : RelO (List.lookup f [(("pledge" : Str), v)]) (if f = "pledge" then some v' else none) := by
  by_cases hw : f = "pledge"
  · subst hw
    rw [if_pos rfl, show List.lookup ("pledge" : Str) [(("pledge" : Str), v)] = some v by simp [List.lookup]]
    exact r
  · rw [if_neg hw]
    have qw : (f == ("pledge" : Str)) = false := by simpa using hw
    rw [show List.lookup f [(("pledge" : Str), v)] = none by simp [List.lookup, qw]]
    trivial
section
variable {X : Cx} {C fI : Addr}
/-- Refused(e) -/
def tMk (C : Addr) (ta : TA) : L2.St → Hp → XK → Prop := fun σ H Q => ta σ H fun vs H1 => ∃ v, vs = [v] ∧ ∀ d, H1 d = none → Q (.ref C) (some d) (upd H1 d (.xd [(("pledge" : Str), v)]))
theorem pmk {a : Expr} {ta : TA} {p pos : Pos} {k : Nat} (T : OwnRefused.Txt X.K X.mg C fI) (hr : Room k X.A) (hg : Gl X "Refused") (ha : PA X [a] ta)
    (he : starEach (a :: []) X.env = (false, eval a X.env) :: starEach [] X.env := by rfl) (hpl : (backTo pos (starEach [] X.env)).any (·.1) = false := by rfl) :
    PMk X (.Call (.Name "Refused" p) [a] [] pos) (tMk C ta) := by
  intro pins s σ H Q I h
  refine wpAny_Call_Name_kw (ld_glob I hg T.gC ?_)
  refine PySem.W.callWith_K (h₀ := X.base) I.ok.mod.kin T.kC (thn (ha.run pos pins s σ H _ I h) fun us s1 ⟨vs, H1, I1, r1, v, ev, q1⟩ => ?_) he hpl
  subst ev
  refine ⟨I1.kIn, ?_⟩
  obtain ⟨v', rfl, rv⟩ := vals1 r1
  show wpAny _ _ (call (.ref C) [v']) _ _ _
  have lim := I1.nolimit
  obtain ⟨hp, g, dr, tk, os⟩ := s1
  refine wpAny_call (OwnRefused.made T I1.kIn lim (by have := hr.dp; omega) fun h' tk' e d M => ?_)
  show MkP X pins σ Q (.ref e) ⟨h', g, dr, tk', os⟩
  obtain ⟨oe, fv, hoe, hc, hd, hdat, h1⟩ := M.obj
  obtain ⟨G', g1, g2⟩ := restrict h' fun b => decide (b ≠ e)
  have gk : ∀ b, b ≠ e → G'.get? b = h'.get? b := fun b hb => g1 b (decide_eq_true hb)
  have ge : G'.get? e = none := g2 e (by simp)
  have old : ∀ b o, hp.get? b = some o → G'.get? b = some o := fun b o q => (gk b (Nat.ne_of_lt (Nat.lt_of_lt_of_le (Heap.lt_size q) M.new))).trans (M.keep b o q)
  have ob : ObjOk X.prog X.w (upd H1 d (.xd [(("pledge" : Str), v)])) G' d (.xd [(("pledge" : Str), v)]) := ⟨_, M.ns.at (fun o q => (gk d M.dne).trans q), fun f => relO rv f⟩
  have J : Inv X pins σ (upd H1 d (.xd [(("pledge" : Str), v)])) ⟨G', g, dr, tk', os⟩ := I1.laid (t' := tk') old M.dbig ob
  refine ⟨e, oe, fv, ⟨G', g, dr, tk', os⟩, _, .ref C, some d, rfl, J, fun b o q => ?_, ge, hoe, ⟨hc, hd⟩, hdat, h1, ?_, rfl, I1.bare, raises_own T.exC T.tyC, q1 d (I1.hok.fresh M.dbig)⟩
  · have q' : G'.get? b = some o := q
    by_cases hb : b = e
    · rw [hb, ge] at q'
      cases q'
    · exact (gk b hb).symm.trans q'
  · rw [upd_ne (Ne.symm M.dne)]
    exact I1.hok.fresh M.new
/-- Refused(e) as a value -/
theorem pe_mkv {a : Expr} {ta : TA} {p pos : Pos} {k : Nat} (T : OwnRefused.Txt X.K X.mg C fI) (hr : Room k X.A) (hg : Gl X "Refused") (ha : PA X [a] ta)
    (he : starEach (a :: []) X.env = (false, eval a X.env) :: starEach [] X.env := by rfl) (hpl : (backTo pos (starEach [] X.env)).any (·.1) = false := by rfl) :
    PE X (.Call (.Name "Refused" p) [a] [] pos) (fun σ H Q => ta σ H fun vs H1 => ∃ v, vs = [v] ∧ ∀ d e, H1 d = none → H1 e = none → d ≠ e → Q (.ref e) (upd (upd H1 d (.xd [(("pledge" : Str), v)])) e (G.ExD C d e))) := by
  refine ⟨fun pins s σ H Q I h => wpAny_Call_Name_kw (ld_glob I hg T.gC ?_)⟩
  refine PySem.W.callWith_K (h₀ := X.base) I.ok.mod.kin T.kC (thn (ha.run pos pins s σ H _ I h) fun us s1 ⟨vs, H1, I1, r1, v, ev, q1⟩ => ?_) he hpl
  subst ev
  obtain ⟨v', rfl, rv⟩ := vals1 r1
  refine ⟨I1.kIn, ?_⟩
  have lim := I1.nolimit
  obtain ⟨hp, g, dr, tk, os⟩ := s1
  refine wpAny_call (OwnRefused.made T I1.kIn lim (by have := hr.dp; omega) fun h' tk' e d M => ?_)
  obtain ⟨oe, fv, hoe, hc, hd, hdat, h1⟩ := M.obj
  obtain ⟨G', g1, g2⟩ := restrict h' fun b => decide (b ≠ e)
  have gk : ∀ b, b ≠ e → G'.get? b = h'.get? b := fun b hb => g1 b (decide_eq_true hb)
  have ge : G'.get? e = none := g2 e (by simp)
  have J : Inv X pins σ (upd H1 d (.xd [(("pledge" : Str), v)])) ⟨G', g, dr, tk', os⟩ := I1.laid (t' := tk') (fun b o q => (gk b (Nat.ne_of_lt (Nat.lt_of_lt_of_le (Heap.lt_size q) M.new))).trans (M.keep b o q)) M.dbig ⟨_, M.ns.at (fun o q => (gk d M.dne).trans q), fun f => relO rv f⟩
  have He : H1 e = none := I1.hok.fresh M.new
  have He2 : upd H1 d (.xd [(("pledge" : Str), v)]) e = none := by rw [upd_ne (Ne.symm M.dne)]; exact He
  have J2 : Inv X pins σ (upd (upd H1 d (.xd [(("pledge" : Str), v)])) e (G.ExD C d e)) ⟨h', g, dr, tk', os⟩ := J.laidN (t' := tk') (fun b u q => by
      by_cases hb : b = e
      · rw [hb, show G'.get? e = none from ge] at q
        cases q
      · exact (gk b hb).symm.trans q) ge He2 ⟨⟨oe, fv, hoe, ⟨hc, hd⟩, hdat⟩, ⟨oe, hoe⟩, fun _ _ ⟨o, v, q, r⟩ k => ⟨o, v, k o q, r⟩⟩
  exact ⟨.ref e, _, J2, rfl, q1 d e (I1.hok.fresh M.dbig) He M.dne⟩
/-- n.pledge of such a value -/
theorem pe_fldv {e : Expr} {te : TE} {pos : Pos} (T : OwnRefused.Txt X.K X.mg C fI) (he : PE X e te) (hb : attributeBase e "pledge" X.env (eval e X.env) = eval e X.env := by rfl) :
    PE X (.Attribute e "pledge" pos) (fun σ H Q => te σ H fun x H1 => ∃ (a dd : Addr) (v : V), x = .ref a ∧ G.IsE H1 a C (some dd) ∧ H1 dd = some (.xd [(("pledge" : Str), v)]) ∧ Q v H1) := by
  refine ⟨fun pins s σ H Q I h => attr_of hb (thn (he.run pins s σ H _ I h) fun u s1 ⟨x, H1, I1, rx, a, dd, v, ex, ie, ea, q⟩ => ?_)⟩
  subst ex
  obtain rfl : u = Value.ref a := rx
  obtain ⟨φ, hφ, kφ⟩ := ie
  obtain ⟨z, _, _⟩ := I1.hok a _ hφ
  obtain ⟨oe, vs, ho1, hz, hdt⟩ := kφ _ z
  obtain ⟨mA, hns, hr⟩ : ObjOk X.prog X.w H1 s1.heap dd (.xd [(("pledge" : Str), v)]) := I1.hok dd _ ea
  obtain ⟨od, ho, hl⟩ := lookIn_ns hns
  obtain ⟨u, hu, ru⟩ := RelO.some_of (v := v) (o := mA "pledge") (by rw [← show List.lookup ("pledge" : Str) [(("pledge" : Str), v)] = some v by simp [List.lookup]]; exact hr "pledge")
  have J : PySem.W.InstAt s1.heap a oe C (some od) := ⟨ho1, hz.1, by unfold PySem.W.notCls; rw [hdt] <;> rfl, by rw [hz.2]; exact ho⟩
  exact PySem.HandSPX.exc_get I1.kIn J T.ga T.gg T.exC (PySem.W.findObj_own T.hdC T.noN rfl (by rw [hl, hu])) (handed_of ru) ⟨v, H1, I1.tok _, ru, q⟩
/-- n.pledge, n the exception that the suite holds at a -/
def tFld (C : Addr) (a : Addr) (cls : Value) (d : Option Addr) (te : TE) : TE := fun σ H Q => te σ H fun x H1 => x = .ref a ∧ cls = .ref C ∧ ∃ (dd : Addr) (v : V), d = some dd ∧ H1 dd = some (.xd [(("pledge" : Str), v)]) ∧ Q v H1
theorem pe_fld {a : Addr} {oe : Obj} {cls : Value} {d : Option Addr} {pn : List (Addr × Obj)} {e : Expr} {te : TE} {pos : Pos} (T : OwnRefused.Txt X.K X.mg C fI) (hz : Zc cls d oe) (hf : ∃ vs, oe.data = .fields vs) (he : PE (X.suite a ((a, oe) :: pn)) e te)
    (hb : attributeBase e "pledge" X.env (eval e X.env) = eval e X.env := by rfl) :
    PE (X.suite a ((a, oe) :: pn)) (.Attribute e "pledge" pos) (tFld C a cls d te) := by
  refine ⟨fun pins s σ H Q I h => ?_⟩
  refine attr_of hb (thn (he.run pins s σ H _ I h) fun u s1 ⟨x, H1, I1, rx, ex, ec, dd, v, ed, ea, q⟩ => ?_)
  subst ex ec ed
  obtain rfl : u = Value.ref a := rx
  obtain ⟨ha, _⟩ := I1.pin (a, oe) (List.mem_append_left _ List.mem_cons_self)
  obtain ⟨vs, hd⟩ := hf
  have hx : ObjOk X.prog X.w H1 s1.heap dd (.xd [(("pledge" : Str), v)]) := I1.hok dd _ ea
  obtain ⟨mA, hns, hr⟩ := hx
  obtain ⟨od, ho, hl⟩ := lookIn_ns hns
  have l : List.lookup ("pledge" : Str) [(("pledge" : Str), v)] = some v := by simp [List.lookup]
  obtain ⟨u, hu, ru⟩ := RelO.some_of (v := v) (o := mA "pledge") (by rw [← l]; exact hr "pledge")
  have J : PySem.W.InstAt s1.heap a oe C (some od) := ⟨ha, hz.1, by unfold PySem.W.notCls; rw [hd] <;> rfl, by rw [hz.2]; exact ho⟩
  exact PySem.HandSPX.exc_get I1.kIn J T.ga T.gg T.exC (PySem.W.findObj_own T.hdC T.noN rfl (by rw [hl, hu])) (handed_of ru) ⟨v, H1, I1.tok _, ru, q⟩
end
end OwnRefused

/-! ## the error Broken of the text: over ArithmeticError, its own __init__ keeps row (after the guide's skeleton 42, for any base) -/
namespace OwnBroken
open PySem PySem.W PySem.Calls PyProof.Rows PySem.HandSPX
def iA (p1 p2 : Pos) : Arguments := { posonlyargs := [], args := [{ arg := "self", annotation := none, pos := p1 }, { arg := "row", annotation := none, pos := p2 }], vararg := none, kwonlyargs := [], kw_defaults := [], kwarg := none, defaults := [] }
def iB (q1 q2 q3 q4 : Pos) : List Stmt := [.Assign [.Attribute (.Name "self" q1) "row" q2] (.Name "row" q3) q4]
def iS : Scope := { kind := .function, names := [(PySem.Str.ofString "self", .local), (PySem.Str.ofString "row", .local)], isGenerator := false, isCoroutine := false, more := [] }
abbrev bmB : List Value := [.type "ArithmeticError", .type "Exception", .type "BaseException", .type "object"]
structure Txt (K : Frag) (mg : Str → Option Value) (C fI : Addr) : Prop where
  gC : mg "Broken" = some (.ref C)
  cls : ∃ nm q N bs bm sn sub ab col dd k0 k1 k2 k3 k5, K.lookup C = some (excClassObj nm q C N bs bm true sn sub ab col dd k0 k1 k2 k3 k5 "ArithmeticError.__new__") ∧ excTail bmB bm = true
  ov : excOver K C bmB = true
  sa : findIn K (.ref C) "__setattr__" = some (some (.builtin "object.__setattr__"))
  ga : findIn K (.ref C) "__getattribute__" = some (some (.builtin "BaseException.__getattribute__"))
  gg : findIn K (.ref C) "__getattr__" = some none
  noN : findIn K (.ref C) "row" = some none
  tkN : takerIn K C "row" = some none
  iC : findIn K (.ref C) "__init__" = some (some (.ref fI))
  tC : typeIn K (.ref fI) = some (.type "function")
  kC : keepIn K (.ref C) = true
  exC : subIn K (.ref C) (.type "BaseException") = some true
  tyC : typeIn K (.ref C) = some (.type "type")
  hdC : hasDictIn K C = true
  te : exmOne K (.ref C) (.ref C) = some true
  fn : ∃ (oc : Value) (od : Option Addr) (doc pm : Value) (an : Option Addr) (cdv ct : Value) (osl : Array (Option Value)) (p1 p2 q1 q2 q3 q4 : Pos),
    K.lookup fI = some ⟨oc, od, .func (fnOf "__init__" "Broken.__init__" (iA p1 p2) (iB q1 q2 q3 q4) iS .none .none doc pm an cdv ct), osl⟩ ∧ codeIn K cdv "Broken.__init__" = true
theorem mk_txt {K : Frag} {h : Heap} {mg : Str → Option Value} {C fI : Addr} {nm q : Str} {N : Addr} {bs bm : List Value} {sn : List Str} {sub : List Value} {ab : Bool} {col : Option Bool} {dd : Option Addr} {k0 k1 k2 k3 k5 : Option Value}
    {oc : Value} {od : Option Addr} {doc pm : Value} {an : Option Addr} {cdv ct : Value} {osl : Array (Option Value)} {p1 p2 q1 q2 q3 q4 : Pos} (X : K.In h) (G : h.Ns mainGlobals mg)
    (gC : nsIn K mainGlobals "Broken" = some (some (.ref C))) (cls : K.lookup C = some (excClassObj nm q C N bs bm true sn sub ab col dd k0 k1 k2 k3 k5 "ArithmeticError.__new__")) (tl : excTail bmB bm = true)
    (ov : excOver K C bmB = true) (sa : findIn K (.ref C) "__setattr__" = some (some (.builtin "object.__setattr__"))) (ga : findIn K (.ref C) "__getattribute__" = some (some (.builtin "BaseException.__getattribute__")))
    (gg : findIn K (.ref C) "__getattr__" = some none) (noN : findIn K (.ref C) "row" = some none) (tkN : takerIn K C "row" = some none) (iC : findIn K (.ref C) "__init__" = some (some (.ref fI)))
    (tC : typeIn K (.ref fI) = some (.type "function")) (kC : keepIn K (.ref C) = true) (exC : subIn K (.ref C) (.type "BaseException") = some true) (tyC : typeIn K (.ref C) = some (.type "type")) (hdC : hasDictIn K C = true) (te : exmOne K (.ref C) (.ref C) = some true)
    (fn : K.lookup fI = some ⟨oc, od, .func (fnOf "__init__" "Broken.__init__" (iA p1 p2) (iB q1 q2 q3 q4) iS .none .none doc pm an cdv ct), osl⟩) (cd : codeIn K cdv "Broken.__init__" = true) : Txt K mg C fI :=
  ⟨mg_of X G gC, ⟨_, _, _, _, _, _, _, _, _, _, _, _, _, _, _, cls, tl⟩, ov, sa, ga, gg, noN, tkN, iC, tC, kC, exC, tyC, hdC, te, ⟨_, _, _, _, _, _, _, _, _, _, _, _, _, _, fn, cd⟩⟩
structure InitEnd (h h' : Heap) (x C dx t1 : Addr) (v : Value) : Prop where
  keep : ∀ b o, b ≠ x → h.get? b = some o → h'.get? b = some o
  obj : h'.get? x = some { cls := .ref C, dict := some dx, data := .fields #[.ref t1, .none, .none, .none, .bool false, .none] }
  dbig : h.objs.size ≤ dx
  dne : dx ≠ x
  ns : h'.Ns1 dx (fun y => if y = "row" then some v else none)
structure Made (h h' : Heap) (e C d : Addr) (v : Value) : Prop where
  keep : ∀ b o, h.get? b = some o → h'.get? b = some o
  new : h.objs.size ≤ e
  obj : ∃ oe vs, h'.get? e = some oe ∧ oe.cls = .ref C ∧ oe.dict = some d ∧ oe.data = .fields vs ∧ vs[1]? = some .none
  dbig : h.objs.size ≤ d
  dne : d ≠ e
  ns : h'.Ns1 d (fun y => if y = "row" then some v else none)
section
variable {prog : Program} {w : World} {A : Around} {E : Value → Shared → Prop} {R : Result → Shared → Prop} {s : Shared} {K : Frag} {mg : Str → Option Value} {C fI : Addr}
theorem init_run (T : Txt K mg C fI) {x t0 : Addr} {v : Value} (X : K.In s.heap) (lim : s.heap.NoLimit) (hx : s.heap.get? x = some (excO C t0)) (room : A.depth < recursionLimit)
    (hq : ∀ h' tk dx, InitEnd s.heap h' x C dx t0 v → R (.ok (.ret .none)) { s with heap := h', toks := tk }) :
    codeAny (model prog w) A (.call (.ref fI) ⟨[.ref x, v], []⟩) R s := by
  obtain ⟨oc, od, doc, pm, an, cdv, ct, osl, p1, p2, q1, q2, q3, q4, ho, hcd⟩ := T.fn
  refine Att.call_fn (binds := [("self", .ref x), ("row", v)]) X lim ho hcd room (BindsTo.of_eq (by first | rfl | with_unfolding_all rfl)) (by first | rfl | decide | with_unfolding_all rfl) (fun s₁ IC => ?_) rfl rfl rfl
  obtain ⟨h₁, tk₁, rfl⟩ := IC.toInCall.same
  have kp : ∀ b o, s.heap.get? b = some o → h₁.get? b = some o := IC.toInCall.keep
  have hn := IC.toInCall.ns
  have X₁ : K.In h₁ := X.keeps kp
  have hx₁ := kp _ _ hx
  show wpAny _ _ (execs _ _) _ _ _
  refine wpAny_execs_cons (plainObj_wpAny_Assign_Attribute ?_)
  refine G.ld_own (v := v) hn (by first | rfl | with_unfolding_all rfl | kernel_rfl) (G.ld_own (v := .ref x) hn (by first | rfl | with_unfolding_all rfl | kernel_rfl) ?_)
  refine set_plain X₁ (ox := excO C t0) (od := none) ⟨hx₁, rfl, rfl, trivial⟩ T.sa ?_
  refine G.first_store PySem.F.store_ArithmeticError X₁ hx₁ T.ov T.tkN T.hdC fun h₃ tk₃ dx k₃ dn dne hx₃ hn₃ => ?_
  show wpAny _ _ (execs _ _) _ _ _
  have z : s.heap.objs.size < h₁.objs.size := hn.lt
  exact wpAny_execs_nil (hq h₃ tk₃ dx ⟨fun b o hb e => k₃ b o hb (kp b o e), hx₃, Nat.le_of_lt (Nat.lt_of_lt_of_le z dn), dne, hn₃⟩)
theorem made (T : Txt K mg C fI) {v : Value} (X : K.In s.heap) (lim : s.heap.NoLimit) (room : A.depth + 1 < recursionLimit)
    (hq : ∀ h' tk e d, Made s.heap h' e C d v → R (.ok (.ret (.ref e))) { s with heap := h', toks := tk }) :
    codeAny (model prog w) A (.call (.ref C) ⟨[v], []⟩) R s := by
  obtain ⟨nm, q, N, bs, bm, sn, sub, ab, col, dd, k0, k1, k2, k3, k5, hC, hbm⟩ := T.cls
  obtain ⟨hp, g, dr, tk, os⟩ := s
  have kp : ∀ b o, hp.get? b = some o → ((hp.push (kdv_tup [v])).push (excO C hp.objs.size)).get? b = some o := fun b o e => Heap.get?_push_of_some _ (Heap.get?_push_of_some _ e)
  have hget : ((hp.push (kdv_tup [v])).push (excO C hp.objs.size)).get? (hp.objs.size + 1) = some (excO C hp.objs.size) := by heap_get
  refine call_own PySem.F.excBase_ArithmeticError (fun Y => excTail_contains Y bm hbm) (X _ _ hC) (looks_findIn X T.iC) (fun self => bind_fn X self T.tC) (by rw [sizeLine_eq]; exact (by decide : 1 ≤ 16777216)) ?_
  refine init_run (s := ⟨(hp.push (kdv_tup [v])).push (excO C hp.objs.size), g, dr, tk, os⟩) T (X.keeps kp) (lim.keeps kp) hget (show A.depth + 1 < recursionLimit from room) fun h' tk' dx ⟨k', hx, dn, dne, hns⟩ => ?_
  have old : ∀ b o, hp.get? b = some o → h'.get? b = some o := fun b o e => k' b o (Nat.ne_of_lt (Nat.lt_succ_of_lt (Heap.lt_size e))) (kp b o e)
  have big : hp.objs.size ≤ dx := by
    have q := dn
    have e1 : ((hp.push (kdv_tup [v])).push (excO C hp.objs.size)).objs.size = hp.objs.size + 1 + 1 := by rw [Heap.size_push, Heap.size_push]
    have q2 : ((hp.push (kdv_tup [v])).push (excO C hp.objs.size)).objs.size ≤ dx := q
    rw [e1] at q2
    exact Nat.le_trans (Nat.le_trans (Nat.le_succ _) (Nat.le_succ _)) q2
  exact ⟨rfl, hq h' tk' (hp.objs.size + 1) dx ⟨old, Nat.le_succ _, ⟨_, _, hx, rfl, rfl, rfl, rfl⟩, big, dne, hns⟩⟩
end
end OwnBroken
namespace OwnBroken
open PySem PySem.Spec PyProof.Rows L2
theorem relO {v : V} {v' : Value} (r : RelV v v') (f : Str) : RelO (List.lookup f [(("row" : Str), v)]) (if f = "row" then some v' else none) := by
  by_cases hw : f = "row"
  · subst hw
    rw [if_pos rfl, show List.lookup ("row" : Str) [(("row" : Str), v)] = some v by simp [List.lookup]]
    exact r
  · rw [if_neg hw]
    have qw : (f == ("row" : Str)) = false := by simpa using hw
    rw [show List.lookup f [(("row" : Str), v)] = none by simp [List.lookup, qw]]
    trivial
section
variable {X : Cx} {C fI : Addr}
/-- Broken(e) -/
def tMk (C : Addr) (ta : TA) : L2.St → Hp → XK → Prop := fun σ H Q => ta σ H fun vs H1 => ∃ v, vs = [v] ∧ ∀ d, H1 d = none → Q (.ref C) (some d) (upd H1 d (.xd [(("row" : Str), v)]))
theorem pmk {a : Expr} {ta : TA} {p pos : Pos} {k : Nat} (T : OwnBroken.Txt X.K X.mg C fI) (hr : Room k X.A) (hg : Gl X "Broken") (ha : PA X [a] ta)
    (he : starEach (a :: []) X.env = (false, eval a X.env) :: starEach [] X.env := by rfl) (hpl : (backTo pos (starEach [] X.env)).any (·.1) = false := by rfl) :
    PMk X (.Call (.Name "Broken" p) [a] [] pos) (tMk C ta) := by
  intro pins s σ H Q I h
  refine wpAny_Call_Name_kw (ld_glob I hg T.gC ?_)
  refine PySem.W.callWith_K (h₀ := X.base) I.ok.mod.kin T.kC (thn (ha.run pos pins s σ H _ I h) fun us s1 ⟨vs, H1, I1, r1, v, ev, q1⟩ => ?_) he hpl
  subst ev
  refine ⟨I1.kIn, ?_⟩
  obtain ⟨v', rfl, rv⟩ := vals1 r1
  show wpAny _ _ (call (.ref C) [v']) _ _ _
  have lim := I1.nolimit
  obtain ⟨hp, g, dr, tk, os⟩ := s1
  refine wpAny_call (OwnBroken.made T I1.kIn lim (by have := hr.dp; omega) fun h' tk' e d M => ?_)
  show MkP X pins σ Q (.ref e) ⟨h', g, dr, tk', os⟩
  obtain ⟨oe, fv, hoe, hc, hd, hdat, h1⟩ := M.obj
  obtain ⟨G', g1, g2⟩ := restrict h' fun b => decide (b ≠ e)
  have gk : ∀ b, b ≠ e → G'.get? b = h'.get? b := fun b hb => g1 b (decide_eq_true hb)
  have ge : G'.get? e = none := g2 e (by simp)
  have old : ∀ b o, hp.get? b = some o → G'.get? b = some o := fun b o q => (gk b (Nat.ne_of_lt (Nat.lt_of_lt_of_le (Heap.lt_size q) M.new))).trans (M.keep b o q)
  have ob : ObjOk X.prog X.w (upd H1 d (.xd [(("row" : Str), v)])) G' d (.xd [(("row" : Str), v)]) := ⟨_, M.ns.at (fun o q => (gk d M.dne).trans q), fun f => relO rv f⟩
  have J : Inv X pins σ (upd H1 d (.xd [(("row" : Str), v)])) ⟨G', g, dr, tk', os⟩ := I1.laid (t' := tk') old M.dbig ob
  refine ⟨e, oe, fv, ⟨G', g, dr, tk', os⟩, _, .ref C, some d, rfl, J, fun b o q => ?_, ge, hoe, ⟨hc, hd⟩, hdat, h1, ?_, rfl, I1.bare, raises_own T.exC T.tyC, q1 d (I1.hok.fresh M.dbig)⟩
  · have q' : G'.get? b = some o := q
    by_cases hb : b = e
    · rw [hb, ge] at q'
      cases q'
    · exact (gk b hb).symm.trans q'
  · rw [upd_ne (Ne.symm M.dne)]
    exact I1.hok.fresh M.new
/-- Broken(e) as a value -/
theorem pe_mkv {a : Expr} {ta : TA} {p pos : Pos} {k : Nat} (T : OwnBroken.Txt X.K X.mg C fI) (hr : Room k X.A) (hg : Gl X "Broken") (ha : PA X [a] ta)
    (he : starEach (a :: []) X.env = (false, eval a X.env) :: starEach [] X.env := by rfl) (hpl : (backTo pos (starEach [] X.env)).any (·.1) = false := by rfl) :
    PE X (.Call (.Name "Broken" p) [a] [] pos) (fun σ H Q => ta σ H fun vs H1 => ∃ v, vs = [v] ∧ ∀ d e, H1 d = none → H1 e = none → d ≠ e → Q (.ref e) (upd (upd H1 d (.xd [(("row" : Str), v)])) e (G.ExD C d e))) := by
  refine ⟨fun pins s σ H Q I h => wpAny_Call_Name_kw (ld_glob I hg T.gC ?_)⟩
  refine PySem.W.callWith_K (h₀ := X.base) I.ok.mod.kin T.kC (thn (ha.run pos pins s σ H _ I h) fun us s1 ⟨vs, H1, I1, r1, v, ev, q1⟩ => ?_) he hpl
  subst ev
  obtain ⟨v', rfl, rv⟩ := vals1 r1
  refine ⟨I1.kIn, ?_⟩
  have lim := I1.nolimit
  obtain ⟨hp, g, dr, tk, os⟩ := s1
  refine wpAny_call (OwnBroken.made T I1.kIn lim (by have := hr.dp; omega) fun h' tk' e d M => ?_)
  obtain ⟨oe, fv, hoe, hc, hd, hdat, h1⟩ := M.obj
  obtain ⟨G', g1, g2⟩ := restrict h' fun b => decide (b ≠ e)
  have gk : ∀ b, b ≠ e → G'.get? b = h'.get? b := fun b hb => g1 b (decide_eq_true hb)
  have ge : G'.get? e = none := g2 e (by simp)
  have J : Inv X pins σ (upd H1 d (.xd [(("row" : Str), v)])) ⟨G', g, dr, tk', os⟩ := I1.laid (t' := tk') (fun b o q => (gk b (Nat.ne_of_lt (Nat.lt_of_lt_of_le (Heap.lt_size q) M.new))).trans (M.keep b o q)) M.dbig ⟨_, M.ns.at (fun o q => (gk d M.dne).trans q), fun f => relO rv f⟩
  have He : H1 e = none := I1.hok.fresh M.new
  have He2 : upd H1 d (.xd [(("row" : Str), v)]) e = none := by rw [upd_ne (Ne.symm M.dne)]; exact He
  have J2 : Inv X pins σ (upd (upd H1 d (.xd [(("row" : Str), v)])) e (G.ExD C d e)) ⟨h', g, dr, tk', os⟩ := J.laidN (t' := tk') (fun b u q => by
      by_cases hb : b = e
      · rw [hb, show G'.get? e = none from ge] at q
        cases q
      · exact (gk b hb).symm.trans q) ge He2 ⟨⟨oe, fv, hoe, ⟨hc, hd⟩, hdat⟩, ⟨oe, hoe⟩, fun _ _ ⟨o, v, q, r⟩ k => ⟨o, v, k o q, r⟩⟩
  exact ⟨.ref e, _, J2, rfl, q1 d e (I1.hok.fresh M.dbig) He M.dne⟩
/-- n.row of such a value -/
theorem pe_fldv {e : Expr} {te : TE} {pos : Pos} (T : OwnBroken.Txt X.K X.mg C fI) (he : PE X e te) (hb : attributeBase e "row" X.env (eval e X.env) = eval e X.env := by rfl) :
    PE X (.Attribute e "row" pos) (fun σ H Q => te σ H fun x H1 => ∃ (a dd : Addr) (v : V), x = .ref a ∧ G.IsE H1 a C (some dd) ∧ H1 dd = some (.xd [(("row" : Str), v)]) ∧ Q v H1) := by
  refine ⟨fun pins s σ H Q I h => attr_of hb (thn (he.run pins s σ H _ I h) fun u s1 ⟨x, H1, I1, rx, a, dd, v, ex, ie, ea, q⟩ => ?_)⟩
  subst ex
  obtain rfl : u = Value.ref a := rx
  obtain ⟨φ, hφ, kφ⟩ := ie
  obtain ⟨z, _, _⟩ := I1.hok a _ hφ
  obtain ⟨oe, vs, ho1, hz, hdt⟩ := kφ _ z
  obtain ⟨mA, hns, hr⟩ : ObjOk X.prog X.w H1 s1.heap dd (.xd [(("row" : Str), v)]) := I1.hok dd _ ea
  obtain ⟨od, ho, hl⟩ := lookIn_ns hns
  obtain ⟨u, hu, ru⟩ := RelO.some_of (v := v) (o := mA "row") (by rw [← show List.lookup ("row" : Str) [(("row" : Str), v)] = some v by simp [List.lookup]]; exact hr "row")
  have J : PySem.W.InstAt s1.heap a oe C (some od) := ⟨ho1, hz.1, by unfold PySem.W.notCls; rw [hdt] <;> rfl, by rw [hz.2]; exact ho⟩
  exact PySem.HandSPX.exc_get I1.kIn J T.ga T.gg T.exC (PySem.W.findObj_own T.hdC T.noN rfl (by rw [hl, hu])) (handed_of ru) ⟨v, H1, I1.tok _, ru, q⟩
/-- n.row, n the exception that the suite holds at a -/
def tFld (C : Addr) (a : Addr) (cls : Value) (d : Option Addr) (te : TE) : TE := fun σ H Q => te σ H fun x H1 => x = .ref a ∧ cls = .ref C ∧ ∃ (dd : Addr) (v : V), d = some dd ∧ H1 dd = some (.xd [(("row" : Str), v)]) ∧ Q v H1
theorem pe_fld {a : Addr} {oe : Obj} {cls : Value} {d : Option Addr} {pn : List (Addr × Obj)} {e : Expr} {te : TE} {pos : Pos} (T : OwnBroken.Txt X.K X.mg C fI) (hz : Zc cls d oe) (hf : ∃ vs, oe.data = .fields vs) (he : PE (X.suite a ((a, oe) :: pn)) e te)
    (hb : attributeBase e "row" X.env (eval e X.env) = eval e X.env := by rfl) :
    PE (X.suite a ((a, oe) :: pn)) (.Attribute e "row" pos) (tFld C a cls d te) := by
  refine ⟨fun pins s σ H Q I h => ?_⟩
  refine attr_of hb (thn (he.run pins s σ H _ I h) fun u s1 ⟨x, H1, I1, rx, ex, ec, dd, v, ed, ea, q⟩ => ?_)
  subst ex ec ed
  obtain rfl : u = Value.ref a := rx
  obtain ⟨ha, _⟩ := I1.pin (a, oe) (List.mem_append_left _ List.mem_cons_self)
  obtain ⟨vs, hd⟩ := hf
  have hx : ObjOk X.prog X.w H1 s1.heap dd (.xd [(("row" : Str), v)]) := I1.hok dd _ ea
  obtain ⟨mA, hns, hr⟩ := hx
  obtain ⟨od, ho, hl⟩ := lookIn_ns hns
  have l : List.lookup ("row" : Str) [(("row" : Str), v)] = some v := by simp [List.lookup]
  obtain ⟨u, hu, ru⟩ := RelO.some_of (v := v) (o := mA "row") (by rw [← l]; exact hr "row")
  have J : PySem.W.InstAt s1.heap a oe C (some od) := ⟨ha, hz.1, by unfold PySem.W.notCls; rw [hd] <;> rfl, by rw [hz.2]; exact ho⟩
  exact PySem.HandSPX.exc_get I1.kIn J T.ga T.gg T.exC (PySem.W.findObj_own T.hdC T.noN rfl (by rw [hl, hu])) (handed_of ru) ⟨v, H1, I1.tok _, ru, q⟩
end
end OwnBroken

namespace G
open PySem PySem.Spec PyProof.Rows L2
def top (i : Nat) : Stmt := PySem.Challenge.pw_fingerbooks_k01_errors_and_what_they_kee.main.body.getD i (.Pass ⟨0, 0, 0, 0⟩)
abbrev s__law_dice : Stmt := top 21
abbrev N__law_dice : List Str := ["_law_script", "_law_spot", "_law_cell", "_law_left"]
theorem sc__law_dice : FnScope N__law_dice ["_law_script", "_law_spot"] (defScope s__law_dice) := ⟨rfl, rfl, rfl, by decide +kernel, rfl, by decide +kernel, by decide +kernel⟩
abbrev s__law_roll : Stmt := top 22
abbrev N__law_roll : List Str := ["_law_dice_here", "_law_total", "_law_found", "_law_one", "_law_two"]
theorem sc__law_roll : FnScope N__law_roll ["_law_dice_here", "_law_total"] (defScope s__law_roll) := ⟨rfl, rfl, rfl, by decide +kernel, rfl, by decide +kernel, by decide +kernel⟩
abbrev s__law_pick : Stmt := top 23
abbrev N__law_pick : List Str := ["_law_dice_here", "_law_items"]
theorem sc__law_pick : FnScope N__law_pick ["_law_dice_here", "_law_items"] (defScope s__law_pick) := ⟨rfl, rfl, rfl, by decide +kernel, rfl, by decide +kernel, by decide +kernel⟩
abbrev s__law_own : Stmt := top 24
abbrev N__law_own : List Str := ["_law_error", "_law_found"]
theorem sc__law_own : FnScope N__law_own ["_law_error"] (defScope s__law_own) := ⟨rfl, rfl, rfl, by decide +kernel, rfl, by decide +kernel, by decide +kernel⟩
abbrev s__law_all : Stmt := top 25
abbrev N__law_all : List Str := ["_law_error", "_law_found"]
theorem sc__law_all : FnScope N__law_all ["_law_error"] (defScope s__law_all) := ⟨rfl, rfl, rfl, by decide +kernel, rfl, by decide +kernel, by decide +kernel⟩
abbrev s__law_messages : Stmt := top 26
abbrev N__law_messages : List Str := ["_law_found"]
theorem sc__law_messages : FnScope N__law_messages [] (defScope s__law_messages) := ⟨rfl, rfl, rfl, by decide +kernel, rfl, by decide +kernel, by decide +kernel⟩
abbrev s__law_kept : Stmt := top 27
abbrev N__law_kept : List Str := ["_law_value", "_law_index", "_law_parse", "_law_unknown", "_law_empty", "_law_number", "_law_undo", "_law_limit", "_law_refused", "_law_broken", "_law_found"]
theorem sc__law_kept : FnScope N__law_kept ["_law_value", "_law_index"] (defScope s__law_kept) := ⟨rfl, rfl, rfl, by decide +kernel, rfl, by decide +kernel, by decide +kernel⟩
abbrev s__law_caught : Stmt := top 28
abbrev N__law_caught : List Str := ["_law_value", "_law_way", "e"]
theorem sc__law_caught : FnScope N__law_caught ["_law_value", "_law_way"] (defScope s__law_caught) := ⟨rfl, rfl, rfl, by decide +kernel, rfl, by decide +kernel, by decide +kernel⟩
abbrev s__law_right : Stmt := top 29
abbrev N__law_right : List Str := ["_law_value", "_law_index", "_law_letters", "_law_due", "_law_told", "_law_way", "_law_letter"]
theorem sc__law_right : FnScope N__law_right ["_law_value", "_law_index"] (defScope s__law_right) := ⟨rfl, rfl, rfl, by decide +kernel, rfl, by decide +kernel, by decide +kernel⟩
abbrev s_law : Stmt := top 30
abbrev N_law : List Str := ["_law_script", "_law_spot", "_law_dice_here", "_law_some", "_law_index", "_law_turn"]
theorem sc_law : FnScope N_law ["_law_script"] (defScope s_law) := ⟨rfl, rfl, rfl, by decide +kernel, rfl, by decide +kernel, by decide +kernel⟩
/-- the classes' addresses -/
structure ClsA where
  cInvalidForm : Addr
  cInvalidRow : Addr
  cInvalidReader : Addr
  cInvalidPage : Addr
  cInvalidBook : Addr
  cInvalidPlace : Addr
  cInvalidSequence : Addr
  cInvalidPlan : Addr
  cInvalidPaper : Addr
  cInvalidOperation : Addr
  cParseError : Addr
  cUnknownName : Addr
  cEmptySequence : Addr
  cInvalidNumber : Addr
  cNothingToUndo : Addr
  cTooMany : Addr
  cRefused : Addr
  cBroken : Addr
  cSpanError : Addr
structure Txt (K : PySem.W.Frag) (mg : Str → Option Value) (A : ClsA) : Prop where
  isinstance : mg "isinstance" = none
  int : mg "int" = none
  len : mg "len" = none
  max : mg "max" = none
  min : mg "min" = none
  abs : mg "abs" = none
  range : mg "range" = none
  repr : mg "repr" = none
  ValueError : mg "ValueError" = none
  KeyError : mg "KeyError" = none
  IndexError : mg "IndexError" = none
  LookupError : mg "LookupError" = none
  RuntimeError : mg "RuntimeError" = none
  OverflowError : mg "OverflowError" = none
  ArithmeticError : mg "ArithmeticError" = none
  cInvalidForm : ∃ u, mg "InvalidForm" = some u ∧ RelV (.ref A.cInvalidForm) u
  cInvalidRow : ∃ u, mg "InvalidRow" = some u ∧ RelV (.ref A.cInvalidRow) u
  cInvalidReader : ∃ u, mg "InvalidReader" = some u ∧ RelV (.ref A.cInvalidReader) u
  cInvalidPage : ∃ u, mg "InvalidPage" = some u ∧ RelV (.ref A.cInvalidPage) u
  cInvalidBook : ∃ u, mg "InvalidBook" = some u ∧ RelV (.ref A.cInvalidBook) u
  cInvalidPlace : ∃ u, mg "InvalidPlace" = some u ∧ RelV (.ref A.cInvalidPlace) u
  cInvalidSequence : ∃ u, mg "InvalidSequence" = some u ∧ RelV (.ref A.cInvalidSequence) u
  cInvalidPlan : ∃ u, mg "InvalidPlan" = some u ∧ RelV (.ref A.cInvalidPlan) u
  cInvalidPaper : ∃ u, mg "InvalidPaper" = some u ∧ RelV (.ref A.cInvalidPaper) u
  cInvalidOperation : ∃ u, mg "InvalidOperation" = some u ∧ RelV (.ref A.cInvalidOperation) u
  cParseError : ∃ u, mg "ParseError" = some u ∧ RelV (.ref A.cParseError) u
  cUnknownName : ∃ u, mg "UnknownName" = some u ∧ RelV (.ref A.cUnknownName) u
  cEmptySequence : ∃ u, mg "EmptySequence" = some u ∧ RelV (.ref A.cEmptySequence) u
  cInvalidNumber : ∃ u, mg "InvalidNumber" = some u ∧ RelV (.ref A.cInvalidNumber) u
  cNothingToUndo : ∃ u, mg "NothingToUndo" = some u ∧ RelV (.ref A.cNothingToUndo) u
  cTooMany : ∃ u, mg "TooMany" = some u ∧ RelV (.ref A.cTooMany) u
  cRefused : ∃ u, mg "Refused" = some u ∧ RelV (.ref A.cRefused) u
  cBroken : ∃ u, mg "Broken" = some u ∧ RelV (.ref A.cBroken) u
  cSpanError : ∃ u, mg "SpanError" = some u ∧ RelV (.ref A.cSpanError) u
def ownsOf (A : ClsA) : List Value := [.ref A.cInvalidForm, .ref A.cInvalidRow, .ref A.cInvalidReader, .ref A.cInvalidPage, .ref A.cInvalidBook, .ref A.cInvalidPlace, .ref A.cInvalidSequence, .ref A.cInvalidPlan, .ref A.cInvalidPaper, .ref A.cInvalidOperation, .ref A.cParseError, .ref A.cUnknownName, .ref A.cEmptySequence, .ref A.cInvalidNumber, .ref A.cNothingToUndo, .ref A.cTooMany, .ref A.cRefused, .ref A.cBroken]
def pysOf (A : ClsA) : List Value := [.ref A.cSpanError, .type "ValueError", .type "KeyError", .type "IndexError", .type "LookupError", .type "RuntimeError", .type "OverflowError", .type "ArithmeticError"]
structure Has (K : PySem.W.Frag) (A : ClsA) (D : Addr) (bs cs : List Bool) : Prop where
  ek : ExcK K D
  own : (ownsOf A).map (fun c => PySem.W.kitOne K (.ref D) c) = bs.map some
  py : (pysOf A).map (fun c => PySem.W.kitOne K (.ref D) c) = cs.map some
structure Cls (K : PySem.W.Frag) (A : ClsA) : Prop where
  hInvalidForm : Has K A A.cInvalidForm [true, false, false, false, false, false, false, false, false, false, false, false, false, false, false, false, false, false] [true, true, false, false, false, false, false, false]
  hInvalidRow : Has K A A.cInvalidRow [false, true, false, false, false, false, false, false, false, false, false, false, false, false, false, false, false, false] [true, true, false, false, false, false, false, false]
  hInvalidReader : Has K A A.cInvalidReader [false, false, true, false, false, false, false, false, false, false, false, false, false, false, false, false, false, false] [true, true, false, false, false, false, false, false]
  hInvalidPage : Has K A A.cInvalidPage [false, false, false, true, false, false, false, false, false, false, false, false, false, false, false, false, false, false] [true, true, false, false, false, false, false, false]
  hInvalidBook : Has K A A.cInvalidBook [false, false, false, false, true, false, false, false, false, false, false, false, false, false, false, false, false, false] [true, true, false, false, false, false, false, false]
  hInvalidPlace : Has K A A.cInvalidPlace [false, false, false, false, false, true, false, false, false, false, false, false, false, false, false, false, false, false] [true, true, false, false, false, false, false, false]
  hInvalidSequence : Has K A A.cInvalidSequence [false, false, false, false, false, false, true, false, false, false, false, false, false, false, false, false, false, false] [true, true, false, false, false, false, false, false]
  hInvalidPlan : Has K A A.cInvalidPlan [false, false, false, false, false, false, false, true, false, false, false, false, false, false, false, false, false, false] [true, true, false, false, false, false, false, false]
  hInvalidPaper : Has K A A.cInvalidPaper [false, false, false, false, false, false, false, false, true, false, false, false, false, false, false, false, false, false] [true, true, false, false, false, false, false, false]
  hInvalidOperation : Has K A A.cInvalidOperation [false, false, false, false, false, false, false, false, false, true, false, false, false, false, false, false, false, false] [true, true, false, false, false, false, false, false]
  hParseError : Has K A A.cParseError [false, false, false, false, false, false, false, false, false, false, true, false, false, false, false, false, false, false] [true, true, false, false, false, false, false, false]
  hUnknownName : Has K A A.cUnknownName [false, false, false, false, false, false, false, false, false, false, false, true, false, false, false, false, false, false] [false, false, true, false, true, false, false, false]
  hEmptySequence : Has K A A.cEmptySequence [false, false, false, false, false, false, false, false, false, false, false, false, true, false, false, false, false, false] [false, false, false, false, true, false, false, false]
  hInvalidNumber : Has K A A.cInvalidNumber [false, false, false, false, false, false, false, false, false, false, false, false, false, true, false, false, false, false] [false, false, false, true, true, false, false, false]
  hNothingToUndo : Has K A A.cNothingToUndo [false, false, false, false, false, false, false, false, false, false, false, false, false, false, true, false, false, false] [false, false, false, false, false, true, false, false]
  hTooMany : Has K A A.cTooMany [false, false, false, false, false, false, false, false, false, false, false, false, false, false, false, true, false, false] [false, false, false, false, false, false, true, true]
  hRefused : Has K A A.cRefused [false, false, false, false, false, false, false, false, false, false, false, false, false, false, false, false, true, false] [false, false, false, false, false, false, false, true]
  hBroken : Has K A A.cBroken [false, false, false, false, false, false, false, false, false, false, false, false, false, false, false, false, false, true] [false, false, false, false, false, false, false, true]
  hSpanError : Has K A A.cSpanError [false, false, false, false, false, false, false, false, false, false, false, false, false, false, false, false, false, false] [true, true, false, false, false, false, false, false]
theorem kits_at {α : Type} {f : α → Option Bool} : ∀ {cs : List α} {bs : List Bool}, cs.map f = bs.map some → ∀ (i : Nat) (c : α), cs[i]? = some c → f c = some (bs.getD i false)
  | [], _, _, _, _, e => by cases e
  | x :: r, [], h, _, _, _ => by cases h
  | x :: r, b :: bs, h, 0, c, e => by
    cases e
    injection h
  | x :: r, b :: bs, h, i + 1, c, e => by
    injection h with h1 h2
    exact kits_at (cs := r) (bs := bs) h2 i c e

def ownText (bs : List Bool) : Str := ((((((((((((((((pick01 (bs.getD 0 false) "f" ++ pick01 (bs.getD 1 false) "r") ++ pick01 (bs.getD 2 false) "d") ++ pick01 (bs.getD 3 false) "p") ++ pick01 (bs.getD 4 false) "b") ++ pick01 (bs.getD 5 false) "c") ++ pick01 (bs.getD 6 false) "s") ++ pick01 (bs.getD 7 false) "l") ++ pick01 (bs.getD 8 false) "q") ++ pick01 (bs.getD 9 false) "o") ++ pick01 (bs.getD 10 false) "x") ++ pick01 (bs.getD 11 false) "U") ++ pick01 (bs.getD 12 false) "E") ++ pick01 (bs.getD 13 false) "N") ++ pick01 (bs.getD 14 false) "Z") ++ pick01 (bs.getD 15 false) "M") ++ pick01 (bs.getD 16 false) "R") ++ pick01 (bs.getD 17 false) "B"
def allText (bs cs : List Bool) : Str := ((((((((ownText bs ++ (" " : Str)) ++ pick01 (cs.getD 0 false) "span ") ++ pick01 (cs.getD 1 false) "value ") ++ pick01 (cs.getD 2 false) "key ") ++ pick01 (cs.getD 3 false) "index ") ++ pick01 (cs.getD 4 false) "lookup ") ++ pick01 (cs.getD 5 false) "runtime ") ++ pick01 (cs.getD 6 false) "overflow ") ++ pick01 (cs.getD 7 false) "arithmetic "
def Dct (H : Hp) (dd : Option Addr) : Prop := ∀ d, dd = some d → ∃ fs, H d = some (.xd fs)
def spOwn (K : PySem.W.Frag) (A : ClsA) : Sp := fun vs H Q _ => ∃ (a D : Addr) (dd : Option Addr) (bs cs : List Bool), vs = [.ref a] ∧ IsE H a D dd ∧ Dct H dd ∧ Has K A D bs cs ∧ Q (.str (ownText bs)) H
def spOwnE (K : PySem.W.Frag) (A : ClsA) : Addr × Obj → Sp := fun p vs H Q _ => ∃ (D : Addr) (bs cs : List Bool), vs = [.ref p.1] ∧ Zc (.ref D) none p.2 ∧ (∃ vs, p.2.data = .fields vs) ∧ Has K A D bs cs ∧ Q (.str (ownText bs)) H
def spAll (K : PySem.W.Frag) (A : ClsA) : Sp := fun vs H Q _ => ∃ (a D : Addr) (dd : Option Addr) (bs cs : List Bool), vs = [.ref a] ∧ IsE H a D dd ∧ Dct H dd ∧ Has K A D bs cs ∧ Q (.str (allText bs cs)) H

section
variable {P : Program} {w : World} {K : PySem.W.Frag} {mg : Str → Option Value} {base : Heap} {A : ClsA}

theorem c_own (T : Txt K mg A) (D0 : DefAt K mg "_law_own" s__law_own ["_law_error"]) : CalG P w K mg base 1 "_law_own" ["_law_error"] (spOwn K A) := by
  refine calOk D0 sc__law_own (fun xs H Q E h => ?_) (fun f cdv A' out s H xs Q E hgd hr h => ?_)
  · obtain ⟨a, D, dd, bs, cs, rfl, _⟩ := h
    rfl
  · obtain ⟨a, D, dd, bs, cs, rfl, ie, hd, hc, k⟩ := h
    have nd := sc__law_own.nd
    refine ⟨_, (pss_cons (ps_set (i := 1) nd rfl (.inl rfl) (pe_op op_add_str (pe_op op_strmul pe_str (pe_callTy call_int1 (by rfl) T.int (by decide +kernel) (pa_cons (pe_callB call_isV (by rfl) T.isinstance (by decide +kernel) (pa_cons (pv 0) (pa_cons (pe_gv rfl T.cInvalidForm) pa_nil))) pa_nil))) (pe_op op_strmul pe_str (pe_callTy call_int1 (by rfl) T.int (by decide +kernel) (pa_cons (pe_callB call_isV (by rfl) T.isinstance (by decide +kernel) (pa_cons (pv 0) (pa_cons (pe_gv rfl T.cInvalidRow) pa_nil))) pa_nil)))))
      (pss_cons (ps_set (i := 1) nd rfl (.inl rfl) (pe_op op_add_str (pe_op op_add_str (pv 1) (pe_op op_strmul pe_str (pe_callTy call_int1 (by rfl) T.int (by decide +kernel) (pa_cons (pe_callB call_isV (by rfl) T.isinstance (by decide +kernel) (pa_cons (pv 0) (pa_cons (pe_gv rfl T.cInvalidReader) pa_nil))) pa_nil)))) (pe_op op_strmul pe_str (pe_callTy call_int1 (by rfl) T.int (by decide +kernel) (pa_cons (pe_callB call_isV (by rfl) T.isinstance (by decide +kernel) (pa_cons (pv 0) (pa_cons (pe_gv rfl T.cInvalidPage) pa_nil))) pa_nil)))))
      (pss_cons (ps_set (i := 1) nd rfl (.inl rfl) (pe_op op_add_str (pe_op op_add_str (pv 1) (pe_op op_strmul pe_str (pe_callTy call_int1 (by rfl) T.int (by decide +kernel) (pa_cons (pe_callB call_isV (by rfl) T.isinstance (by decide +kernel) (pa_cons (pv 0) (pa_cons (pe_gv rfl T.cInvalidBook) pa_nil))) pa_nil)))) (pe_op op_strmul pe_str (pe_callTy call_int1 (by rfl) T.int (by decide +kernel) (pa_cons (pe_callB call_isV (by rfl) T.isinstance (by decide +kernel) (pa_cons (pv 0) (pa_cons (pe_gv rfl T.cInvalidPlace) pa_nil))) pa_nil)))))
      (pss_cons (ps_set (i := 1) nd rfl (.inl rfl) (pe_op op_add_str (pe_op op_add_str (pv 1) (pe_op op_strmul pe_str (pe_callTy call_int1 (by rfl) T.int (by decide +kernel) (pa_cons (pe_callB call_isV (by rfl) T.isinstance (by decide +kernel) (pa_cons (pv 0) (pa_cons (pe_gv rfl T.cInvalidSequence) pa_nil))) pa_nil)))) (pe_op op_strmul pe_str (pe_callTy call_int1 (by rfl) T.int (by decide +kernel) (pa_cons (pe_callB call_isV (by rfl) T.isinstance (by decide +kernel) (pa_cons (pv 0) (pa_cons (pe_gv rfl T.cInvalidPlan) pa_nil))) pa_nil)))))
      (pss_cons (ps_set (i := 1) nd rfl (.inl rfl) (pe_op op_add_str (pe_op op_add_str (pv 1) (pe_op op_strmul pe_str (pe_callTy call_int1 (by rfl) T.int (by decide +kernel) (pa_cons (pe_callB call_isV (by rfl) T.isinstance (by decide +kernel) (pa_cons (pv 0) (pa_cons (pe_gv rfl T.cInvalidPaper) pa_nil))) pa_nil)))) (pe_op op_strmul pe_str (pe_callTy call_int1 (by rfl) T.int (by decide +kernel) (pa_cons (pe_callB call_isV (by rfl) T.isinstance (by decide +kernel) (pa_cons (pv 0) (pa_cons (pe_gv rfl T.cInvalidOperation) pa_nil))) pa_nil)))))
      (pss_cons (ps_set (i := 1) nd rfl (.inl rfl) (pe_op op_add_str (pe_op op_add_str (pv 1) (pe_op op_strmul pe_str (pe_callTy call_int1 (by rfl) T.int (by decide +kernel) (pa_cons (pe_callB call_isV (by rfl) T.isinstance (by decide +kernel) (pa_cons (pv 0) (pa_cons (pe_gv rfl T.cParseError) pa_nil))) pa_nil)))) (pe_op op_strmul pe_str (pe_callTy call_int1 (by rfl) T.int (by decide +kernel) (pa_cons (pe_callB call_isV (by rfl) T.isinstance (by decide +kernel) (pa_cons (pv 0) (pa_cons (pe_gv rfl T.cUnknownName) pa_nil))) pa_nil)))))
      (pss_cons (ps_set (i := 1) nd rfl (.inl rfl) (pe_op op_add_str (pe_op op_add_str (pv 1) (pe_op op_strmul pe_str (pe_callTy call_int1 (by rfl) T.int (by decide +kernel) (pa_cons (pe_callB call_isV (by rfl) T.isinstance (by decide +kernel) (pa_cons (pv 0) (pa_cons (pe_gv rfl T.cEmptySequence) pa_nil))) pa_nil)))) (pe_op op_strmul pe_str (pe_callTy call_int1 (by rfl) T.int (by decide +kernel) (pa_cons (pe_callB call_isV (by rfl) T.isinstance (by decide +kernel) (pa_cons (pv 0) (pa_cons (pe_gv rfl T.cInvalidNumber) pa_nil))) pa_nil)))))
      (pss_cons (ps_set (i := 1) nd rfl (.inl rfl) (pe_op op_add_str (pe_op op_add_str (pv 1) (pe_op op_strmul pe_str (pe_callTy call_int1 (by rfl) T.int (by decide +kernel) (pa_cons (pe_callB call_isV (by rfl) T.isinstance (by decide +kernel) (pa_cons (pv 0) (pa_cons (pe_gv rfl T.cNothingToUndo) pa_nil))) pa_nil)))) (pe_op op_strmul pe_str (pe_callTy call_int1 (by rfl) T.int (by decide +kernel) (pa_cons (pe_callB call_isV (by rfl) T.isinstance (by decide +kernel) (pa_cons (pv 0) (pa_cons (pe_gv rfl T.cTooMany) pa_nil))) pa_nil)))))
      (pss_one (ps_ret (pe_op op_add_str (pe_op op_add_str (pv 1) (pe_op op_strmul pe_str (pe_callTy call_int1 (by rfl) T.int (by decide +kernel) (pa_cons (pe_callB call_isV (by rfl) T.isinstance (by decide +kernel) (pa_cons (pv 0) (pa_cons (pe_gv rfl T.cRefused) pa_nil))) pa_nil)))) (pe_op op_strmul pe_str (pe_callTy call_int1 (by rfl) T.int (by decide +kernel) (pa_cons (pe_callB call_isV (by rfl) T.isinstance (by decide +kernel) (pa_cons (pv 0) (pa_cons (pe_gv rfl T.cBroken) pa_nil))) pa_nil)))))))))))))), ?_⟩
    refine a_set (fun v H' => v = .str (pick01 (bs.getD 0 false) "f" ++ pick01 (bs.getD 1 false) "r") ∧ H = H') (fun Q' kQ => ?_) ?_
    · refine ⟨_, rfl, a, D, dd, _, _, _, rfl, .own _, (.inl ⟨ie, hd⟩), hc.ek, (kits_at hc.own 0 _ rfl), .inr ⟨_, rfl, _, _, rfl, rfl, ?_⟩⟩
      refine ⟨_, rfl, a, D, dd, _, _, _, rfl, .own _, (.inl ⟨ie, hd⟩), hc.ek, (kits_at hc.own 1 _ rfl), .inr ⟨_, rfl, _, _, rfl, rfl, ?_⟩⟩
      exact ⟨_, _, rfl, rfl, Nat.le_trans (Nat.add_le_add (pick_len _ _) (pick_len _ _)) (by decide +kernel), kQ _ _ ⟨rfl, rfl⟩⟩
    rintro _ _ ⟨rfl, rfl⟩
    have l0 : (pick01 (bs.getD 0 false) "f" ++ pick01 (bs.getD 1 false) "r").length ≤ 2 := by rw [Str.length_append]; exact Nat.le_trans (Nat.add_le_add (pick_len _ _) (pick_len _ _)) (by decide +kernel)
    refine a_set (fun v H' => v = .str (((pick01 (bs.getD 0 false) "f" ++ pick01 (bs.getD 1 false) "r") ++ pick01 (bs.getD 2 false) "d") ++ pick01 (bs.getD 3 false) "p") ∧ H = H') (fun Q' kQ => ?_) ?_
    · refine ⟨_, rfl, _, rfl, a, D, dd, _, _, _, rfl, .own _, (.inl ⟨ie, hd⟩), hc.ek, (kits_at hc.own 2 _ rfl), .inr ⟨_, rfl, _, _, rfl, rfl, ?_⟩⟩
      refine ⟨_, _, rfl, rfl, Nat.le_trans (Nat.add_le_add l0 (pick_len _ _)) (by decide +kernel), ?_⟩
      refine ⟨_, rfl, a, D, dd, _, _, _, rfl, .own _, (.inl ⟨ie, hd⟩), hc.ek, (kits_at hc.own 3 _ rfl), .inr ⟨_, rfl, _, _, rfl, rfl, ?_⟩⟩
      exact ⟨_, _, rfl, rfl, Nat.le_trans (Nat.add_le_add (add_len l0 _ _) (pick_len _ _)) (by decide +kernel), kQ _ _ ⟨rfl, rfl⟩⟩
    rintro _ _ ⟨rfl, rfl⟩
    have l0 : (((pick01 (bs.getD 0 false) "f" ++ pick01 (bs.getD 1 false) "r") ++ pick01 (bs.getD 2 false) "d") ++ pick01 (bs.getD 3 false) "p").length ≤ 4 := Nat.le_trans (add_len (add_len l0 _ _) _ _) (by decide +kernel)
    refine a_set (fun v H' => v = .str (((((pick01 (bs.getD 0 false) "f" ++ pick01 (bs.getD 1 false) "r") ++ pick01 (bs.getD 2 false) "d") ++ pick01 (bs.getD 3 false) "p") ++ pick01 (bs.getD 4 false) "b") ++ pick01 (bs.getD 5 false) "c") ∧ H = H') (fun Q' kQ => ?_) ?_
    · refine ⟨_, rfl, _, rfl, a, D, dd, _, _, _, rfl, .own _, (.inl ⟨ie, hd⟩), hc.ek, (kits_at hc.own 4 _ rfl), .inr ⟨_, rfl, _, _, rfl, rfl, ?_⟩⟩
      refine ⟨_, _, rfl, rfl, Nat.le_trans (Nat.add_le_add l0 (pick_len _ _)) (by decide +kernel), ?_⟩
      refine ⟨_, rfl, a, D, dd, _, _, _, rfl, .own _, (.inl ⟨ie, hd⟩), hc.ek, (kits_at hc.own 5 _ rfl), .inr ⟨_, rfl, _, _, rfl, rfl, ?_⟩⟩
      exact ⟨_, _, rfl, rfl, Nat.le_trans (Nat.add_le_add (add_len l0 _ _) (pick_len _ _)) (by decide +kernel), kQ _ _ ⟨rfl, rfl⟩⟩
    rintro _ _ ⟨rfl, rfl⟩
    have l0 : (((((pick01 (bs.getD 0 false) "f" ++ pick01 (bs.getD 1 false) "r") ++ pick01 (bs.getD 2 false) "d") ++ pick01 (bs.getD 3 false) "p") ++ pick01 (bs.getD 4 false) "b") ++ pick01 (bs.getD 5 false) "c").length ≤ 6 := Nat.le_trans (add_len (add_len l0 _ _) _ _) (by decide +kernel)
    refine a_set (fun v H' => v = .str (((((((pick01 (bs.getD 0 false) "f" ++ pick01 (bs.getD 1 false) "r") ++ pick01 (bs.getD 2 false) "d") ++ pick01 (bs.getD 3 false) "p") ++ pick01 (bs.getD 4 false) "b") ++ pick01 (bs.getD 5 false) "c") ++ pick01 (bs.getD 6 false) "s") ++ pick01 (bs.getD 7 false) "l") ∧ H = H') (fun Q' kQ => ?_) ?_
    · refine ⟨_, rfl, _, rfl, a, D, dd, _, _, _, rfl, .own _, (.inl ⟨ie, hd⟩), hc.ek, (kits_at hc.own 6 _ rfl), .inr ⟨_, rfl, _, _, rfl, rfl, ?_⟩⟩
      refine ⟨_, _, rfl, rfl, Nat.le_trans (Nat.add_le_add l0 (pick_len _ _)) (by decide +kernel), ?_⟩
      refine ⟨_, rfl, a, D, dd, _, _, _, rfl, .own _, (.inl ⟨ie, hd⟩), hc.ek, (kits_at hc.own 7 _ rfl), .inr ⟨_, rfl, _, _, rfl, rfl, ?_⟩⟩
      exact ⟨_, _, rfl, rfl, Nat.le_trans (Nat.add_le_add (add_len l0 _ _) (pick_len _ _)) (by decide +kernel), kQ _ _ ⟨rfl, rfl⟩⟩
    rintro _ _ ⟨rfl, rfl⟩
    have l0 : (((((((pick01 (bs.getD 0 false) "f" ++ pick01 (bs.getD 1 false) "r") ++ pick01 (bs.getD 2 false) "d") ++ pick01 (bs.getD 3 false) "p") ++ pick01 (bs.getD 4 false) "b") ++ pick01 (bs.getD 5 false) "c") ++ pick01 (bs.getD 6 false) "s") ++ pick01 (bs.getD 7 false) "l").length ≤ 8 := Nat.le_trans (add_len (add_len l0 _ _) _ _) (by decide +kernel)
    refine a_set (fun v H' => v = .str (((((((((pick01 (bs.getD 0 false) "f" ++ pick01 (bs.getD 1 false) "r") ++ pick01 (bs.getD 2 false) "d") ++ pick01 (bs.getD 3 false) "p") ++ pick01 (bs.getD 4 false) "b") ++ pick01 (bs.getD 5 false) "c") ++ pick01 (bs.getD 6 false) "s") ++ pick01 (bs.getD 7 false) "l") ++ pick01 (bs.getD 8 false) "q") ++ pick01 (bs.getD 9 false) "o") ∧ H = H') (fun Q' kQ => ?_) ?_
    · refine ⟨_, rfl, _, rfl, a, D, dd, _, _, _, rfl, .own _, (.inl ⟨ie, hd⟩), hc.ek, (kits_at hc.own 8 _ rfl), .inr ⟨_, rfl, _, _, rfl, rfl, ?_⟩⟩
      refine ⟨_, _, rfl, rfl, Nat.le_trans (Nat.add_le_add l0 (pick_len _ _)) (by decide +kernel), ?_⟩
      refine ⟨_, rfl, a, D, dd, _, _, _, rfl, .own _, (.inl ⟨ie, hd⟩), hc.ek, (kits_at hc.own 9 _ rfl), .inr ⟨_, rfl, _, _, rfl, rfl, ?_⟩⟩
      exact ⟨_, _, rfl, rfl, Nat.le_trans (Nat.add_le_add (add_len l0 _ _) (pick_len _ _)) (by decide +kernel), kQ _ _ ⟨rfl, rfl⟩⟩
    rintro _ _ ⟨rfl, rfl⟩
    have l0 : (((((((((pick01 (bs.getD 0 false) "f" ++ pick01 (bs.getD 1 false) "r") ++ pick01 (bs.getD 2 false) "d") ++ pick01 (bs.getD 3 false) "p") ++ pick01 (bs.getD 4 false) "b") ++ pick01 (bs.getD 5 false) "c") ++ pick01 (bs.getD 6 false) "s") ++ pick01 (bs.getD 7 false) "l") ++ pick01 (bs.getD 8 false) "q") ++ pick01 (bs.getD 9 false) "o").length ≤ 10 := Nat.le_trans (add_len (add_len l0 _ _) _ _) (by decide +kernel)
    refine a_set (fun v H' => v = .str (((((((((((pick01 (bs.getD 0 false) "f" ++ pick01 (bs.getD 1 false) "r") ++ pick01 (bs.getD 2 false) "d") ++ pick01 (bs.getD 3 false) "p") ++ pick01 (bs.getD 4 false) "b") ++ pick01 (bs.getD 5 false) "c") ++ pick01 (bs.getD 6 false) "s") ++ pick01 (bs.getD 7 false) "l") ++ pick01 (bs.getD 8 false) "q") ++ pick01 (bs.getD 9 false) "o") ++ pick01 (bs.getD 10 false) "x") ++ pick01 (bs.getD 11 false) "U") ∧ H = H') (fun Q' kQ => ?_) ?_
    · refine ⟨_, rfl, _, rfl, a, D, dd, _, _, _, rfl, .own _, (.inl ⟨ie, hd⟩), hc.ek, (kits_at hc.own 10 _ rfl), .inr ⟨_, rfl, _, _, rfl, rfl, ?_⟩⟩
      refine ⟨_, _, rfl, rfl, Nat.le_trans (Nat.add_le_add l0 (pick_len _ _)) (by decide +kernel), ?_⟩
      refine ⟨_, rfl, a, D, dd, _, _, _, rfl, .own _, (.inl ⟨ie, hd⟩), hc.ek, (kits_at hc.own 11 _ rfl), .inr ⟨_, rfl, _, _, rfl, rfl, ?_⟩⟩
      exact ⟨_, _, rfl, rfl, Nat.le_trans (Nat.add_le_add (add_len l0 _ _) (pick_len _ _)) (by decide +kernel), kQ _ _ ⟨rfl, rfl⟩⟩
    rintro _ _ ⟨rfl, rfl⟩
    have l0 : (((((((((((pick01 (bs.getD 0 false) "f" ++ pick01 (bs.getD 1 false) "r") ++ pick01 (bs.getD 2 false) "d") ++ pick01 (bs.getD 3 false) "p") ++ pick01 (bs.getD 4 false) "b") ++ pick01 (bs.getD 5 false) "c") ++ pick01 (bs.getD 6 false) "s") ++ pick01 (bs.getD 7 false) "l") ++ pick01 (bs.getD 8 false) "q") ++ pick01 (bs.getD 9 false) "o") ++ pick01 (bs.getD 10 false) "x") ++ pick01 (bs.getD 11 false) "U").length ≤ 12 := Nat.le_trans (add_len (add_len l0 _ _) _ _) (by decide +kernel)
    refine a_set (fun v H' => v = .str (((((((((((((pick01 (bs.getD 0 false) "f" ++ pick01 (bs.getD 1 false) "r") ++ pick01 (bs.getD 2 false) "d") ++ pick01 (bs.getD 3 false) "p") ++ pick01 (bs.getD 4 false) "b") ++ pick01 (bs.getD 5 false) "c") ++ pick01 (bs.getD 6 false) "s") ++ pick01 (bs.getD 7 false) "l") ++ pick01 (bs.getD 8 false) "q") ++ pick01 (bs.getD 9 false) "o") ++ pick01 (bs.getD 10 false) "x") ++ pick01 (bs.getD 11 false) "U") ++ pick01 (bs.getD 12 false) "E") ++ pick01 (bs.getD 13 false) "N") ∧ H = H') (fun Q' kQ => ?_) ?_
    · refine ⟨_, rfl, _, rfl, a, D, dd, _, _, _, rfl, .own _, (.inl ⟨ie, hd⟩), hc.ek, (kits_at hc.own 12 _ rfl), .inr ⟨_, rfl, _, _, rfl, rfl, ?_⟩⟩
      refine ⟨_, _, rfl, rfl, Nat.le_trans (Nat.add_le_add l0 (pick_len _ _)) (by decide +kernel), ?_⟩
      refine ⟨_, rfl, a, D, dd, _, _, _, rfl, .own _, (.inl ⟨ie, hd⟩), hc.ek, (kits_at hc.own 13 _ rfl), .inr ⟨_, rfl, _, _, rfl, rfl, ?_⟩⟩
      exact ⟨_, _, rfl, rfl, Nat.le_trans (Nat.add_le_add (add_len l0 _ _) (pick_len _ _)) (by decide +kernel), kQ _ _ ⟨rfl, rfl⟩⟩
    rintro _ _ ⟨rfl, rfl⟩
    have l0 : (((((((((((((pick01 (bs.getD 0 false) "f" ++ pick01 (bs.getD 1 false) "r") ++ pick01 (bs.getD 2 false) "d") ++ pick01 (bs.getD 3 false) "p") ++ pick01 (bs.getD 4 false) "b") ++ pick01 (bs.getD 5 false) "c") ++ pick01 (bs.getD 6 false) "s") ++ pick01 (bs.getD 7 false) "l") ++ pick01 (bs.getD 8 false) "q") ++ pick01 (bs.getD 9 false) "o") ++ pick01 (bs.getD 10 false) "x") ++ pick01 (bs.getD 11 false) "U") ++ pick01 (bs.getD 12 false) "E") ++ pick01 (bs.getD 13 false) "N").length ≤ 14 := Nat.le_trans (add_len (add_len l0 _ _) _ _) (by decide +kernel)
    refine a_set (fun v H' => v = .str (((((((((((((((pick01 (bs.getD 0 false) "f" ++ pick01 (bs.getD 1 false) "r") ++ pick01 (bs.getD 2 false) "d") ++ pick01 (bs.getD 3 false) "p") ++ pick01 (bs.getD 4 false) "b") ++ pick01 (bs.getD 5 false) "c") ++ pick01 (bs.getD 6 false) "s") ++ pick01 (bs.getD 7 false) "l") ++ pick01 (bs.getD 8 false) "q") ++ pick01 (bs.getD 9 false) "o") ++ pick01 (bs.getD 10 false) "x") ++ pick01 (bs.getD 11 false) "U") ++ pick01 (bs.getD 12 false) "E") ++ pick01 (bs.getD 13 false) "N") ++ pick01 (bs.getD 14 false) "Z") ++ pick01 (bs.getD 15 false) "M") ∧ H = H') (fun Q' kQ => ?_) ?_
    · refine ⟨_, rfl, _, rfl, a, D, dd, _, _, _, rfl, .own _, (.inl ⟨ie, hd⟩), hc.ek, (kits_at hc.own 14 _ rfl), .inr ⟨_, rfl, _, _, rfl, rfl, ?_⟩⟩
      refine ⟨_, _, rfl, rfl, Nat.le_trans (Nat.add_le_add l0 (pick_len _ _)) (by decide +kernel), ?_⟩
      refine ⟨_, rfl, a, D, dd, _, _, _, rfl, .own _, (.inl ⟨ie, hd⟩), hc.ek, (kits_at hc.own 15 _ rfl), .inr ⟨_, rfl, _, _, rfl, rfl, ?_⟩⟩
      exact ⟨_, _, rfl, rfl, Nat.le_trans (Nat.add_le_add (add_len l0 _ _) (pick_len _ _)) (by decide +kernel), kQ _ _ ⟨rfl, rfl⟩⟩
    rintro _ _ ⟨rfl, rfl⟩
    have l0 : (((((((((((((((pick01 (bs.getD 0 false) "f" ++ pick01 (bs.getD 1 false) "r") ++ pick01 (bs.getD 2 false) "d") ++ pick01 (bs.getD 3 false) "p") ++ pick01 (bs.getD 4 false) "b") ++ pick01 (bs.getD 5 false) "c") ++ pick01 (bs.getD 6 false) "s") ++ pick01 (bs.getD 7 false) "l") ++ pick01 (bs.getD 8 false) "q") ++ pick01 (bs.getD 9 false) "o") ++ pick01 (bs.getD 10 false) "x") ++ pick01 (bs.getD 11 false) "U") ++ pick01 (bs.getD 12 false) "E") ++ pick01 (bs.getD 13 false) "N") ++ pick01 (bs.getD 14 false) "Z") ++ pick01 (bs.getD 15 false) "M").length ≤ 16 := Nat.le_trans (add_len (add_len l0 _ _) _ _) (by decide +kernel)
    refine a_ret (fun v H' => v = .str (ownText bs) ∧ H = H') (fun Q' kQ => ?_) (fun v H' e => by rw [e.1, ← e.2]; exact k)
    · refine ⟨_, rfl, _, rfl, a, D, dd, _, _, _, rfl, .own _, (.inl ⟨ie, hd⟩), hc.ek, (kits_at hc.own 16 _ rfl), .inr ⟨_, rfl, _, _, rfl, rfl, ?_⟩⟩
      refine ⟨_, _, rfl, rfl, Nat.le_trans (Nat.add_le_add l0 (pick_len _ _)) (by decide +kernel), ?_⟩
      refine ⟨_, rfl, a, D, dd, _, _, _, rfl, .own _, (.inl ⟨ie, hd⟩), hc.ek, (kits_at hc.own 17 _ rfl), .inr ⟨_, rfl, _, _, rfl, rfl, ?_⟩⟩
      exact ⟨_, _, rfl, rfl, Nat.le_trans (Nat.add_le_add (add_len l0 _ _) (pick_len _ _)) (by decide +kernel), kQ _ _ ⟨rfl, rfl⟩⟩
theorem c_ownE (T : Txt K mg A) (D0 : DefAt K mg "_law_own" s__law_own ["_law_error"]) : CalE P w K mg base 1 "_law_own" ["_law_error"] (spOwnE K A) := by
  refine calOkE D0 sc__law_own (fun p xs H Q E h => ?_) (fun f cdv A' out s H xs Q E p hr h => ?_)
  · obtain ⟨D, bs, cs, rfl, _⟩ := h
    rfl
  · obtain ⟨D, bs, cs, rfl, hz, hf, hc, k⟩ := h
    have nd := sc__law_own.nd
    refine ⟨_, (pss_cons (ps_set (i := 1) nd rfl (.inl rfl) (pe_op op_add_str (pe_op op_strmul pe_str (pe_callTy call_int1 (by rfl) T.int (by decide +kernel) (pa_cons (pe_callB call_isV (by rfl) T.isinstance (by decide +kernel) (pa_cons (pv 0) (pa_cons (pe_gv rfl T.cInvalidForm) pa_nil))) pa_nil))) (pe_op op_strmul pe_str (pe_callTy call_int1 (by rfl) T.int (by decide +kernel) (pa_cons (pe_callB call_isV (by rfl) T.isinstance (by decide +kernel) (pa_cons (pv 0) (pa_cons (pe_gv rfl T.cInvalidRow) pa_nil))) pa_nil)))))
      (pss_cons (ps_set (i := 1) nd rfl (.inl rfl) (pe_op op_add_str (pe_op op_add_str (pv 1) (pe_op op_strmul pe_str (pe_callTy call_int1 (by rfl) T.int (by decide +kernel) (pa_cons (pe_callB call_isV (by rfl) T.isinstance (by decide +kernel) (pa_cons (pv 0) (pa_cons (pe_gv rfl T.cInvalidReader) pa_nil))) pa_nil)))) (pe_op op_strmul pe_str (pe_callTy call_int1 (by rfl) T.int (by decide +kernel) (pa_cons (pe_callB call_isV (by rfl) T.isinstance (by decide +kernel) (pa_cons (pv 0) (pa_cons (pe_gv rfl T.cInvalidPage) pa_nil))) pa_nil)))))
      (pss_cons (ps_set (i := 1) nd rfl (.inl rfl) (pe_op op_add_str (pe_op op_add_str (pv 1) (pe_op op_strmul pe_str (pe_callTy call_int1 (by rfl) T.int (by decide +kernel) (pa_cons (pe_callB call_isV (by rfl) T.isinstance (by decide +kernel) (pa_cons (pv 0) (pa_cons (pe_gv rfl T.cInvalidBook) pa_nil))) pa_nil)))) (pe_op op_strmul pe_str (pe_callTy call_int1 (by rfl) T.int (by decide +kernel) (pa_cons (pe_callB call_isV (by rfl) T.isinstance (by decide +kernel) (pa_cons (pv 0) (pa_cons (pe_gv rfl T.cInvalidPlace) pa_nil))) pa_nil)))))
      (pss_cons (ps_set (i := 1) nd rfl (.inl rfl) (pe_op op_add_str (pe_op op_add_str (pv 1) (pe_op op_strmul pe_str (pe_callTy call_int1 (by rfl) T.int (by decide +kernel) (pa_cons (pe_callB call_isV (by rfl) T.isinstance (by decide +kernel) (pa_cons (pv 0) (pa_cons (pe_gv rfl T.cInvalidSequence) pa_nil))) pa_nil)))) (pe_op op_strmul pe_str (pe_callTy call_int1 (by rfl) T.int (by decide +kernel) (pa_cons (pe_callB call_isV (by rfl) T.isinstance (by decide +kernel) (pa_cons (pv 0) (pa_cons (pe_gv rfl T.cInvalidPlan) pa_nil))) pa_nil)))))
      (pss_cons (ps_set (i := 1) nd rfl (.inl rfl) (pe_op op_add_str (pe_op op_add_str (pv 1) (pe_op op_strmul pe_str (pe_callTy call_int1 (by rfl) T.int (by decide +kernel) (pa_cons (pe_callB call_isV (by rfl) T.isinstance (by decide +kernel) (pa_cons (pv 0) (pa_cons (pe_gv rfl T.cInvalidPaper) pa_nil))) pa_nil)))) (pe_op op_strmul pe_str (pe_callTy call_int1 (by rfl) T.int (by decide +kernel) (pa_cons (pe_callB call_isV (by rfl) T.isinstance (by decide +kernel) (pa_cons (pv 0) (pa_cons (pe_gv rfl T.cInvalidOperation) pa_nil))) pa_nil)))))
      (pss_cons (ps_set (i := 1) nd rfl (.inl rfl) (pe_op op_add_str (pe_op op_add_str (pv 1) (pe_op op_strmul pe_str (pe_callTy call_int1 (by rfl) T.int (by decide +kernel) (pa_cons (pe_callB call_isV (by rfl) T.isinstance (by decide +kernel) (pa_cons (pv 0) (pa_cons (pe_gv rfl T.cParseError) pa_nil))) pa_nil)))) (pe_op op_strmul pe_str (pe_callTy call_int1 (by rfl) T.int (by decide +kernel) (pa_cons (pe_callB call_isV (by rfl) T.isinstance (by decide +kernel) (pa_cons (pv 0) (pa_cons (pe_gv rfl T.cUnknownName) pa_nil))) pa_nil)))))
      (pss_cons (ps_set (i := 1) nd rfl (.inl rfl) (pe_op op_add_str (pe_op op_add_str (pv 1) (pe_op op_strmul pe_str (pe_callTy call_int1 (by rfl) T.int (by decide +kernel) (pa_cons (pe_callB call_isV (by rfl) T.isinstance (by decide +kernel) (pa_cons (pv 0) (pa_cons (pe_gv rfl T.cEmptySequence) pa_nil))) pa_nil)))) (pe_op op_strmul pe_str (pe_callTy call_int1 (by rfl) T.int (by decide +kernel) (pa_cons (pe_callB call_isV (by rfl) T.isinstance (by decide +kernel) (pa_cons (pv 0) (pa_cons (pe_gv rfl T.cInvalidNumber) pa_nil))) pa_nil)))))
      (pss_cons (ps_set (i := 1) nd rfl (.inl rfl) (pe_op op_add_str (pe_op op_add_str (pv 1) (pe_op op_strmul pe_str (pe_callTy call_int1 (by rfl) T.int (by decide +kernel) (pa_cons (pe_callB call_isV (by rfl) T.isinstance (by decide +kernel) (pa_cons (pv 0) (pa_cons (pe_gv rfl T.cNothingToUndo) pa_nil))) pa_nil)))) (pe_op op_strmul pe_str (pe_callTy call_int1 (by rfl) T.int (by decide +kernel) (pa_cons (pe_callB call_isV (by rfl) T.isinstance (by decide +kernel) (pa_cons (pv 0) (pa_cons (pe_gv rfl T.cTooMany) pa_nil))) pa_nil)))))
      (pss_one (ps_ret (pe_op op_add_str (pe_op op_add_str (pv 1) (pe_op op_strmul pe_str (pe_callTy call_int1 (by rfl) T.int (by decide +kernel) (pa_cons (pe_callB call_isV (by rfl) T.isinstance (by decide +kernel) (pa_cons (pv 0) (pa_cons (pe_gv rfl T.cRefused) pa_nil))) pa_nil)))) (pe_op op_strmul pe_str (pe_callTy call_int1 (by rfl) T.int (by decide +kernel) (pa_cons (pe_callB call_isV (by rfl) T.isinstance (by decide +kernel) (pa_cons (pv 0) (pa_cons (pe_gv rfl T.cBroken) pa_nil))) pa_nil)))))))))))))), ?_⟩
    refine a_set (fun v H' => v = .str (pick01 (bs.getD 0 false) "f" ++ pick01 (bs.getD 1 false) "r") ∧ H = H') (fun Q' kQ => ?_) ?_
    · refine ⟨_, rfl, p.1, D, none, _, _, _, rfl, .own _, (.inr ⟨rfl, p.2, List.mem_cons_self, hz, hf⟩), hc.ek, (kits_at hc.own 0 _ rfl), .inr ⟨_, rfl, _, _, rfl, rfl, ?_⟩⟩
      refine ⟨_, rfl, p.1, D, none, _, _, _, rfl, .own _, (.inr ⟨rfl, p.2, List.mem_cons_self, hz, hf⟩), hc.ek, (kits_at hc.own 1 _ rfl), .inr ⟨_, rfl, _, _, rfl, rfl, ?_⟩⟩
      exact ⟨_, _, rfl, rfl, Nat.le_trans (Nat.add_le_add (pick_len _ _) (pick_len _ _)) (by decide +kernel), kQ _ _ ⟨rfl, rfl⟩⟩
    rintro _ _ ⟨rfl, rfl⟩
    have l0 : (pick01 (bs.getD 0 false) "f" ++ pick01 (bs.getD 1 false) "r").length ≤ 2 := by rw [Str.length_append]; exact Nat.le_trans (Nat.add_le_add (pick_len _ _) (pick_len _ _)) (by decide +kernel)
    refine a_set (fun v H' => v = .str (((pick01 (bs.getD 0 false) "f" ++ pick01 (bs.getD 1 false) "r") ++ pick01 (bs.getD 2 false) "d") ++ pick01 (bs.getD 3 false) "p") ∧ H = H') (fun Q' kQ => ?_) ?_
    · refine ⟨_, rfl, _, rfl, p.1, D, none, _, _, _, rfl, .own _, (.inr ⟨rfl, p.2, List.mem_cons_self, hz, hf⟩), hc.ek, (kits_at hc.own 2 _ rfl), .inr ⟨_, rfl, _, _, rfl, rfl, ?_⟩⟩
      refine ⟨_, _, rfl, rfl, Nat.le_trans (Nat.add_le_add l0 (pick_len _ _)) (by decide +kernel), ?_⟩
      refine ⟨_, rfl, p.1, D, none, _, _, _, rfl, .own _, (.inr ⟨rfl, p.2, List.mem_cons_self, hz, hf⟩), hc.ek, (kits_at hc.own 3 _ rfl), .inr ⟨_, rfl, _, _, rfl, rfl, ?_⟩⟩
      exact ⟨_, _, rfl, rfl, Nat.le_trans (Nat.add_le_add (add_len l0 _ _) (pick_len _ _)) (by decide +kernel), kQ _ _ ⟨rfl, rfl⟩⟩
    rintro _ _ ⟨rfl, rfl⟩
    have l0 : (((pick01 (bs.getD 0 false) "f" ++ pick01 (bs.getD 1 false) "r") ++ pick01 (bs.getD 2 false) "d") ++ pick01 (bs.getD 3 false) "p").length ≤ 4 := Nat.le_trans (add_len (add_len l0 _ _) _ _) (by decide +kernel)
    refine a_set (fun v H' => v = .str (((((pick01 (bs.getD 0 false) "f" ++ pick01 (bs.getD 1 false) "r") ++ pick01 (bs.getD 2 false) "d") ++ pick01 (bs.getD 3 false) "p") ++ pick01 (bs.getD 4 false) "b") ++ pick01 (bs.getD 5 false) "c") ∧ H = H') (fun Q' kQ => ?_) ?_
    · refine ⟨_, rfl, _, rfl, p.1, D, none, _, _, _, rfl, .own _, (.inr ⟨rfl, p.2, List.mem_cons_self, hz, hf⟩), hc.ek, (kits_at hc.own 4 _ rfl), .inr ⟨_, rfl, _, _, rfl, rfl, ?_⟩⟩
      refine ⟨_, _, rfl, rfl, Nat.le_trans (Nat.add_le_add l0 (pick_len _ _)) (by decide +kernel), ?_⟩
      refine ⟨_, rfl, p.1, D, none, _, _, _, rfl, .own _, (.inr ⟨rfl, p.2, List.mem_cons_self, hz, hf⟩), hc.ek, (kits_at hc.own 5 _ rfl), .inr ⟨_, rfl, _, _, rfl, rfl, ?_⟩⟩
      exact ⟨_, _, rfl, rfl, Nat.le_trans (Nat.add_le_add (add_len l0 _ _) (pick_len _ _)) (by decide +kernel), kQ _ _ ⟨rfl, rfl⟩⟩
    rintro _ _ ⟨rfl, rfl⟩
    have l0 : (((((pick01 (bs.getD 0 false) "f" ++ pick01 (bs.getD 1 false) "r") ++ pick01 (bs.getD 2 false) "d") ++ pick01 (bs.getD 3 false) "p") ++ pick01 (bs.getD 4 false) "b") ++ pick01 (bs.getD 5 false) "c").length ≤ 6 := Nat.le_trans (add_len (add_len l0 _ _) _ _) (by decide +kernel)
    refine a_set (fun v H' => v = .str (((((((pick01 (bs.getD 0 false) "f" ++ pick01 (bs.getD 1 false) "r") ++ pick01 (bs.getD 2 false) "d") ++ pick01 (bs.getD 3 false) "p") ++ pick01 (bs.getD 4 false) "b") ++ pick01 (bs.getD 5 false) "c") ++ pick01 (bs.getD 6 false) "s") ++ pick01 (bs.getD 7 false) "l") ∧ H = H') (fun Q' kQ => ?_) ?_
    · refine ⟨_, rfl, _, rfl, p.1, D, none, _, _, _, rfl, .own _, (.inr ⟨rfl, p.2, List.mem_cons_self, hz, hf⟩), hc.ek, (kits_at hc.own 6 _ rfl), .inr ⟨_, rfl, _, _, rfl, rfl, ?_⟩⟩
      refine ⟨_, _, rfl, rfl, Nat.le_trans (Nat.add_le_add l0 (pick_len _ _)) (by decide +kernel), ?_⟩
      refine ⟨_, rfl, p.1, D, none, _, _, _, rfl, .own _, (.inr ⟨rfl, p.2, List.mem_cons_self, hz, hf⟩), hc.ek, (kits_at hc.own 7 _ rfl), .inr ⟨_, rfl, _, _, rfl, rfl, ?_⟩⟩
      exact ⟨_, _, rfl, rfl, Nat.le_trans (Nat.add_le_add (add_len l0 _ _) (pick_len _ _)) (by decide +kernel), kQ _ _ ⟨rfl, rfl⟩⟩
    rintro _ _ ⟨rfl, rfl⟩
    have l0 : (((((((pick01 (bs.getD 0 false) "f" ++ pick01 (bs.getD 1 false) "r") ++ pick01 (bs.getD 2 false) "d") ++ pick01 (bs.getD 3 false) "p") ++ pick01 (bs.getD 4 false) "b") ++ pick01 (bs.getD 5 false) "c") ++ pick01 (bs.getD 6 false) "s") ++ pick01 (bs.getD 7 false) "l").length ≤ 8 := Nat.le_trans (add_len (add_len l0 _ _) _ _) (by decide +kernel)
    refine a_set (fun v H' => v = .str (((((((((pick01 (bs.getD 0 false) "f" ++ pick01 (bs.getD 1 false) "r") ++ pick01 (bs.getD 2 false) "d") ++ pick01 (bs.getD 3 false) "p") ++ pick01 (bs.getD 4 false) "b") ++ pick01 (bs.getD 5 false) "c") ++ pick01 (bs.getD 6 false) "s") ++ pick01 (bs.getD 7 false) "l") ++ pick01 (bs.getD 8 false) "q") ++ pick01 (bs.getD 9 false) "o") ∧ H = H') (fun Q' kQ => ?_) ?_
    · refine ⟨_, rfl, _, rfl, p.1, D, none, _, _, _, rfl, .own _, (.inr ⟨rfl, p.2, List.mem_cons_self, hz, hf⟩), hc.ek, (kits_at hc.own 8 _ rfl), .inr ⟨_, rfl, _, _, rfl, rfl, ?_⟩⟩
      refine ⟨_, _, rfl, rfl, Nat.le_trans (Nat.add_le_add l0 (pick_len _ _)) (by decide +kernel), ?_⟩
      refine ⟨_, rfl, p.1, D, none, _, _, _, rfl, .own _, (.inr ⟨rfl, p.2, List.mem_cons_self, hz, hf⟩), hc.ek, (kits_at hc.own 9 _ rfl), .inr ⟨_, rfl, _, _, rfl, rfl, ?_⟩⟩
      exact ⟨_, _, rfl, rfl, Nat.le_trans (Nat.add_le_add (add_len l0 _ _) (pick_len _ _)) (by decide +kernel), kQ _ _ ⟨rfl, rfl⟩⟩
    rintro _ _ ⟨rfl, rfl⟩
    have l0 : (((((((((pick01 (bs.getD 0 false) "f" ++ pick01 (bs.getD 1 false) "r") ++ pick01 (bs.getD 2 false) "d") ++ pick01 (bs.getD 3 false) "p") ++ pick01 (bs.getD 4 false) "b") ++ pick01 (bs.getD 5 false) "c") ++ pick01 (bs.getD 6 false) "s") ++ pick01 (bs.getD 7 false) "l") ++ pick01 (bs.getD 8 false) "q") ++ pick01 (bs.getD 9 false) "o").length ≤ 10 := Nat.le_trans (add_len (add_len l0 _ _) _ _) (by decide +kernel)
    refine a_set (fun v H' => v = .str (((((((((((pick01 (bs.getD 0 false) "f" ++ pick01 (bs.getD 1 false) "r") ++ pick01 (bs.getD 2 false) "d") ++ pick01 (bs.getD 3 false) "p") ++ pick01 (bs.getD 4 false) "b") ++ pick01 (bs.getD 5 false) "c") ++ pick01 (bs.getD 6 false) "s") ++ pick01 (bs.getD 7 false) "l") ++ pick01 (bs.getD 8 false) "q") ++ pick01 (bs.getD 9 false) "o") ++ pick01 (bs.getD 10 false) "x") ++ pick01 (bs.getD 11 false) "U") ∧ H = H') (fun Q' kQ => ?_) ?_
    · refine ⟨_, rfl, _, rfl, p.1, D, none, _, _, _, rfl, .own _, (.inr ⟨rfl, p.2, List.mem_cons_self, hz, hf⟩), hc.ek, (kits_at hc.own 10 _ rfl), .inr ⟨_, rfl, _, _, rfl, rfl, ?_⟩⟩
      refine ⟨_, _, rfl, rfl, Nat.le_trans (Nat.add_le_add l0 (pick_len _ _)) (by decide +kernel), ?_⟩
      refine ⟨_, rfl, p.1, D, none, _, _, _, rfl, .own _, (.inr ⟨rfl, p.2, List.mem_cons_self, hz, hf⟩), hc.ek, (kits_at hc.own 11 _ rfl), .inr ⟨_, rfl, _, _, rfl, rfl, ?_⟩⟩
      exact ⟨_, _, rfl, rfl, Nat.le_trans (Nat.add_le_add (add_len l0 _ _) (pick_len _ _)) (by decide +kernel), kQ _ _ ⟨rfl, rfl⟩⟩
    rintro _ _ ⟨rfl, rfl⟩
    have l0 : (((((((((((pick01 (bs.getD 0 false) "f" ++ pick01 (bs.getD 1 false) "r") ++ pick01 (bs.getD 2 false) "d") ++ pick01 (bs.getD 3 false) "p") ++ pick01 (bs.getD 4 false) "b") ++ pick01 (bs.getD 5 false) "c") ++ pick01 (bs.getD 6 false) "s") ++ pick01 (bs.getD 7 false) "l") ++ pick01 (bs.getD 8 false) "q") ++ pick01 (bs.getD 9 false) "o") ++ pick01 (bs.getD 10 false) "x") ++ pick01 (bs.getD 11 false) "U").length ≤ 12 := Nat.le_trans (add_len (add_len l0 _ _) _ _) (by decide +kernel)
    refine a_set (fun v H' => v = .str (((((((((((((pick01 (bs.getD 0 false) "f" ++ pick01 (bs.getD 1 false) "r") ++ pick01 (bs.getD 2 false) "d") ++ pick01 (bs.getD 3 false) "p") ++ pick01 (bs.getD 4 false) "b") ++ pick01 (bs.getD 5 false) "c") ++ pick01 (bs.getD 6 false) "s") ++ pick01 (bs.getD 7 false) "l") ++ pick01 (bs.getD 8 false) "q") ++ pick01 (bs.getD 9 false) "o") ++ pick01 (bs.getD 10 false) "x") ++ pick01 (bs.getD 11 false) "U") ++ pick01 (bs.getD 12 false) "E") ++ pick01 (bs.getD 13 false) "N") ∧ H = H') (fun Q' kQ => ?_) ?_
    · refine ⟨_, rfl, _, rfl, p.1, D, none, _, _, _, rfl, .own _, (.inr ⟨rfl, p.2, List.mem_cons_self, hz, hf⟩), hc.ek, (kits_at hc.own 12 _ rfl), .inr ⟨_, rfl, _, _, rfl, rfl, ?_⟩⟩
      refine ⟨_, _, rfl, rfl, Nat.le_trans (Nat.add_le_add l0 (pick_len _ _)) (by decide +kernel), ?_⟩
      refine ⟨_, rfl, p.1, D, none, _, _, _, rfl, .own _, (.inr ⟨rfl, p.2, List.mem_cons_self, hz, hf⟩), hc.ek, (kits_at hc.own 13 _ rfl), .inr ⟨_, rfl, _, _, rfl, rfl, ?_⟩⟩
      exact ⟨_, _, rfl, rfl, Nat.le_trans (Nat.add_le_add (add_len l0 _ _) (pick_len _ _)) (by decide +kernel), kQ _ _ ⟨rfl, rfl⟩⟩
    rintro _ _ ⟨rfl, rfl⟩
    have l0 : (((((((((((((pick01 (bs.getD 0 false) "f" ++ pick01 (bs.getD 1 false) "r") ++ pick01 (bs.getD 2 false) "d") ++ pick01 (bs.getD 3 false) "p") ++ pick01 (bs.getD 4 false) "b") ++ pick01 (bs.getD 5 false) "c") ++ pick01 (bs.getD 6 false) "s") ++ pick01 (bs.getD 7 false) "l") ++ pick01 (bs.getD 8 false) "q") ++ pick01 (bs.getD 9 false) "o") ++ pick01 (bs.getD 10 false) "x") ++ pick01 (bs.getD 11 false) "U") ++ pick01 (bs.getD 12 false) "E") ++ pick01 (bs.getD 13 false) "N").length ≤ 14 := Nat.le_trans (add_len (add_len l0 _ _) _ _) (by decide +kernel)
    refine a_set (fun v H' => v = .str (((((((((((((((pick01 (bs.getD 0 false) "f" ++ pick01 (bs.getD 1 false) "r") ++ pick01 (bs.getD 2 false) "d") ++ pick01 (bs.getD 3 false) "p") ++ pick01 (bs.getD 4 false) "b") ++ pick01 (bs.getD 5 false) "c") ++ pick01 (bs.getD 6 false) "s") ++ pick01 (bs.getD 7 false) "l") ++ pick01 (bs.getD 8 false) "q") ++ pick01 (bs.getD 9 false) "o") ++ pick01 (bs.getD 10 false) "x") ++ pick01 (bs.getD 11 false) "U") ++ pick01 (bs.getD 12 false) "E") ++ pick01 (bs.getD 13 false) "N") ++ pick01 (bs.getD 14 false) "Z") ++ pick01 (bs.getD 15 false) "M") ∧ H = H') (fun Q' kQ => ?_) ?_
    · refine ⟨_, rfl, _, rfl, p.1, D, none, _, _, _, rfl, .own _, (.inr ⟨rfl, p.2, List.mem_cons_self, hz, hf⟩), hc.ek, (kits_at hc.own 14 _ rfl), .inr ⟨_, rfl, _, _, rfl, rfl, ?_⟩⟩
      refine ⟨_, _, rfl, rfl, Nat.le_trans (Nat.add_le_add l0 (pick_len _ _)) (by decide +kernel), ?_⟩
      refine ⟨_, rfl, p.1, D, none, _, _, _, rfl, .own _, (.inr ⟨rfl, p.2, List.mem_cons_self, hz, hf⟩), hc.ek, (kits_at hc.own 15 _ rfl), .inr ⟨_, rfl, _, _, rfl, rfl, ?_⟩⟩
      exact ⟨_, _, rfl, rfl, Nat.le_trans (Nat.add_le_add (add_len l0 _ _) (pick_len _ _)) (by decide +kernel), kQ _ _ ⟨rfl, rfl⟩⟩
    rintro _ _ ⟨rfl, rfl⟩
    have l0 : (((((((((((((((pick01 (bs.getD 0 false) "f" ++ pick01 (bs.getD 1 false) "r") ++ pick01 (bs.getD 2 false) "d") ++ pick01 (bs.getD 3 false) "p") ++ pick01 (bs.getD 4 false) "b") ++ pick01 (bs.getD 5 false) "c") ++ pick01 (bs.getD 6 false) "s") ++ pick01 (bs.getD 7 false) "l") ++ pick01 (bs.getD 8 false) "q") ++ pick01 (bs.getD 9 false) "o") ++ pick01 (bs.getD 10 false) "x") ++ pick01 (bs.getD 11 false) "U") ++ pick01 (bs.getD 12 false) "E") ++ pick01 (bs.getD 13 false) "N") ++ pick01 (bs.getD 14 false) "Z") ++ pick01 (bs.getD 15 false) "M").length ≤ 16 := Nat.le_trans (add_len (add_len l0 _ _) _ _) (by decide +kernel)
    refine a_ret (fun v H' => v = .str (ownText bs) ∧ H = H') (fun Q' kQ => ?_) (fun v H' e => by rw [e.1, ← e.2]; exact k)
    · refine ⟨_, rfl, _, rfl, p.1, D, none, _, _, _, rfl, .own _, (.inr ⟨rfl, p.2, List.mem_cons_self, hz, hf⟩), hc.ek, (kits_at hc.own 16 _ rfl), .inr ⟨_, rfl, _, _, rfl, rfl, ?_⟩⟩
      refine ⟨_, _, rfl, rfl, Nat.le_trans (Nat.add_le_add l0 (pick_len _ _)) (by decide +kernel), ?_⟩
      refine ⟨_, rfl, p.1, D, none, _, _, _, rfl, .own _, (.inr ⟨rfl, p.2, List.mem_cons_self, hz, hf⟩), hc.ek, (kits_at hc.own 17 _ rfl), .inr ⟨_, rfl, _, _, rfl, rfl, ?_⟩⟩
      exact ⟨_, _, rfl, rfl, Nat.le_trans (Nat.add_le_add (add_len l0 _ _) (pick_len _ _)) (by decide +kernel), kQ _ _ ⟨rfl, rfl⟩⟩
theorem own_len (bs : List Bool) : (ownText bs).length ≤ 18 := by
  have l0 : (pick01 (bs.getD 0 false) "f" ++ pick01 (bs.getD 1 false) "r").length ≤ 2 := by
    rw [Str.length_append]
    exact Nat.le_trans (Nat.add_le_add (pick_len _ _) (pick_len _ _)) (by decide +kernel)
  exact Nat.le_trans (add_len (add_len (add_len (add_len (add_len (add_len (add_len (add_len (add_len (add_len (add_len (add_len (add_len (add_len (add_len (add_len l0 _ _) _ _) _ _) _ _) _ _) _ _) _ _) _ _) _ _) _ _) _ _) _ _) _ _) _ _) _ _) _ _) (by decide +kernel)
theorem c_all (T : Txt K mg A) (C__law_own : CalG P w K mg base 1 "_law_own" ["_law_error"] (spOwn K A)) (D0 : DefAt K mg "_law_all" s__law_all ["_law_error"]) : CalG P w K mg base 2 "_law_all" ["_law_error"] (spAll K A) := by
  refine calOk D0 sc__law_all (fun xs H Q E h => ?_) (fun f cdv A' out s H xs Q E hgd hr h => ?_)
  · obtain ⟨a, D, dd, bs, cs, rfl, _⟩ := h
    rfl
  · obtain ⟨a, D, dd, bs, cs, rfl, ie, hd, hc, k⟩ := h
    have nd := sc__law_all.nd
    refine ⟨_, (pss_cons (ps_set (i := 1) nd rfl (.inl rfl) (pe_op op_add_str (pe_op op_add_str (pe_k C__law_own hgd hr (by decide) rfl (pa_cons (pv 0) pa_nil)) pe_str) (pe_op op_strmul pe_str (pe_callTy call_int1 (by rfl) T.int (by decide +kernel) (pa_cons (pe_callB call_isV (by rfl) T.isinstance (by decide +kernel) (pa_cons (pv 0) (pa_cons (pe_gv rfl T.cSpanError) pa_nil))) pa_nil)))))
      (pss_cons (ps_set (i := 1) nd rfl (.inl rfl) (pe_op op_add_str (pe_op op_add_str (pv 1) (pe_op op_strmul pe_str (pe_callTy call_int1 (by rfl) T.int (by decide +kernel) (pa_cons (pe_callB call_isV (by rfl) T.isinstance (by decide +kernel) (pa_cons (pv 0) (pa_cons (pe_ty "ValueError" rfl T.ValueError (by decide +kernel)) pa_nil))) pa_nil)))) (pe_op op_strmul pe_str (pe_callTy call_int1 (by rfl) T.int (by decide +kernel) (pa_cons (pe_callB call_isV (by rfl) T.isinstance (by decide +kernel) (pa_cons (pv 0) (pa_cons (pe_ty "KeyError" rfl T.KeyError (by decide +kernel)) pa_nil))) pa_nil)))))
      (pss_cons (ps_set (i := 1) nd rfl (.inl rfl) (pe_op op_add_str (pe_op op_add_str (pv 1) (pe_op op_strmul pe_str (pe_callTy call_int1 (by rfl) T.int (by decide +kernel) (pa_cons (pe_callB call_isV (by rfl) T.isinstance (by decide +kernel) (pa_cons (pv 0) (pa_cons (pe_ty "IndexError" rfl T.IndexError (by decide +kernel)) pa_nil))) pa_nil)))) (pe_op op_strmul pe_str (pe_callTy call_int1 (by rfl) T.int (by decide +kernel) (pa_cons (pe_callB call_isV (by rfl) T.isinstance (by decide +kernel) (pa_cons (pv 0) (pa_cons (pe_ty "LookupError" rfl T.LookupError (by decide +kernel)) pa_nil))) pa_nil)))))
      (pss_cons (ps_set (i := 1) nd rfl (.inl rfl) (pe_op op_add_str (pv 1) (pe_op op_strmul pe_str (pe_callTy call_int1 (by rfl) T.int (by decide +kernel) (pa_cons (pe_callB call_isV (by rfl) T.isinstance (by decide +kernel) (pa_cons (pv 0) (pa_cons (pe_ty "RuntimeError" rfl T.RuntimeError (by decide +kernel)) pa_nil))) pa_nil)))))
      (pss_cons (ps_set (i := 1) nd rfl (.inl rfl) (pe_op op_add_str (pv 1) (pe_op op_strmul pe_str (pe_callTy call_int1 (by rfl) T.int (by decide +kernel) (pa_cons (pe_callB call_isV (by rfl) T.isinstance (by decide +kernel) (pa_cons (pv 0) (pa_cons (pe_ty "OverflowError" rfl T.OverflowError (by decide +kernel)) pa_nil))) pa_nil)))))
      (pss_one (ps_ret (pe_op op_add_str (pv 1) (pe_op op_strmul pe_str (pe_callTy call_int1 (by rfl) T.int (by decide +kernel) (pa_cons (pe_callB call_isV (by rfl) T.isinstance (by decide +kernel) (pa_cons (pv 0) (pa_cons (pe_ty "ArithmeticError" rfl T.ArithmeticError (by decide +kernel)) pa_nil))) pa_nil))))))))))), ?_⟩
    have lo : (ownText bs).length ≤ 18 := own_len bs
    have ls : (ownText bs ++ (" " : Str)).length ≤ 19 := by rw [Str.length_append]; exact Nat.add_le_add lo (show Str.length (" " : Str) ≤ 1 by decide +kernel)
    refine a_set (fun v H' => v = .str ((ownText bs ++ (" " : Str)) ++ pick01 (cs.getD 0 false) "span ") ∧ H = H') (fun Q' kQ => ?_) ?_
    · refine ⟨_, rfl, a, D, dd, bs, cs, rfl, ie, hd, hc, _, _, rfl, rfl, Nat.le_trans (Nat.add_le_add lo (Nat.le_refl _)) (by decide +kernel), ?_⟩
      refine ⟨_, rfl, a, D, dd, _, _, _, rfl, .own _, (.inl ⟨ie, hd⟩), hc.ek, (kits_at hc.py 0 _ rfl), .inr ⟨_, rfl, _, _, rfl, rfl, ?_⟩⟩
      exact ⟨_, _, rfl, rfl, Nat.le_trans (Nat.add_le_add ls (pick_len _ _)) (by decide +kernel), kQ _ _ ⟨rfl, rfl⟩⟩
    rintro _ _ ⟨rfl, rfl⟩
    have l0 : ((ownText bs ++ (" " : Str)) ++ pick01 (cs.getD 0 false) "span ").length ≤ 30 := Nat.le_trans (add_len ls _ _) (by decide +kernel)
    refine a_set (fun v H' => v = .str ((((ownText bs ++ (" " : Str)) ++ pick01 (cs.getD 0 false) "span ") ++ pick01 (cs.getD 1 false) "value ") ++ pick01 (cs.getD 2 false) "key ") ∧ H = H') (fun Q' kQ => ?_) ?_
    · refine ⟨_, rfl, _, rfl, a, D, dd, _, _, _, rfl, .ty _, (.inl ⟨ie, hd⟩), hc.ek, (kits_at hc.py 1 _ rfl), .inr ⟨_, rfl, _, _, rfl, rfl, ?_⟩⟩
      refine ⟨_, _, rfl, rfl, Nat.le_trans (Nat.add_le_add l0 (pick_len _ _)) (by decide +kernel), ?_⟩
      refine ⟨_, rfl, a, D, dd, _, _, _, rfl, .ty _, (.inl ⟨ie, hd⟩), hc.ek, (kits_at hc.py 2 _ rfl), .inr ⟨_, rfl, _, _, rfl, rfl, ?_⟩⟩
      exact ⟨_, _, rfl, rfl, Nat.le_trans (Nat.add_le_add (add_len l0 _ _) (pick_len _ _)) (by decide +kernel), kQ _ _ ⟨rfl, rfl⟩⟩
    rintro _ _ ⟨rfl, rfl⟩
    have l0 : ((((ownText bs ++ (" " : Str)) ++ pick01 (cs.getD 0 false) "span ") ++ pick01 (cs.getD 1 false) "value ") ++ pick01 (cs.getD 2 false) "key ").length ≤ 70 := Nat.le_trans (add_len (add_len l0 _ _) _ _) (by decide +kernel)
    refine a_set (fun v H' => v = .str ((((((ownText bs ++ (" " : Str)) ++ pick01 (cs.getD 0 false) "span ") ++ pick01 (cs.getD 1 false) "value ") ++ pick01 (cs.getD 2 false) "key ") ++ pick01 (cs.getD 3 false) "index ") ++ pick01 (cs.getD 4 false) "lookup ") ∧ H = H') (fun Q' kQ => ?_) ?_
    · refine ⟨_, rfl, _, rfl, a, D, dd, _, _, _, rfl, .ty _, (.inl ⟨ie, hd⟩), hc.ek, (kits_at hc.py 3 _ rfl), .inr ⟨_, rfl, _, _, rfl, rfl, ?_⟩⟩
      refine ⟨_, _, rfl, rfl, Nat.le_trans (Nat.add_le_add l0 (pick_len _ _)) (by decide +kernel), ?_⟩
      refine ⟨_, rfl, a, D, dd, _, _, _, rfl, .ty _, (.inl ⟨ie, hd⟩), hc.ek, (kits_at hc.py 4 _ rfl), .inr ⟨_, rfl, _, _, rfl, rfl, ?_⟩⟩
      exact ⟨_, _, rfl, rfl, Nat.le_trans (Nat.add_le_add (add_len l0 _ _) (pick_len _ _)) (by decide +kernel), kQ _ _ ⟨rfl, rfl⟩⟩
    rintro _ _ ⟨rfl, rfl⟩
    have l0 : ((((((ownText bs ++ (" " : Str)) ++ pick01 (cs.getD 0 false) "span ") ++ pick01 (cs.getD 1 false) "value ") ++ pick01 (cs.getD 2 false) "key ") ++ pick01 (cs.getD 3 false) "index ") ++ pick01 (cs.getD 4 false) "lookup ").length ≤ 110 := Nat.le_trans (add_len (add_len l0 _ _) _ _) (by decide +kernel)
    refine a_set (fun v H' => v = .str (((((((ownText bs ++ (" " : Str)) ++ pick01 (cs.getD 0 false) "span ") ++ pick01 (cs.getD 1 false) "value ") ++ pick01 (cs.getD 2 false) "key ") ++ pick01 (cs.getD 3 false) "index ") ++ pick01 (cs.getD 4 false) "lookup ") ++ pick01 (cs.getD 5 false) "runtime ") ∧ H = H') (fun Q' kQ => ?_) ?_
    · refine ⟨_, rfl, _, rfl, a, D, dd, _, _, _, rfl, .ty _, (.inl ⟨ie, hd⟩), hc.ek, (kits_at hc.py 5 _ rfl), .inr ⟨_, rfl, _, _, rfl, rfl, ?_⟩⟩
      exact ⟨_, _, rfl, rfl, Nat.le_trans (Nat.add_le_add l0 (pick_len _ _)) (by decide +kernel), kQ _ _ ⟨rfl, rfl⟩⟩
    rintro _ _ ⟨rfl, rfl⟩
    have l0 : (((((((ownText bs ++ (" " : Str)) ++ pick01 (cs.getD 0 false) "span ") ++ pick01 (cs.getD 1 false) "value ") ++ pick01 (cs.getD 2 false) "key ") ++ pick01 (cs.getD 3 false) "index ") ++ pick01 (cs.getD 4 false) "lookup ") ++ pick01 (cs.getD 5 false) "runtime ").length ≤ 130 := Nat.le_trans (add_len l0 _ _) (by decide +kernel)
    refine a_set (fun v H' => v = .str ((((((((ownText bs ++ (" " : Str)) ++ pick01 (cs.getD 0 false) "span ") ++ pick01 (cs.getD 1 false) "value ") ++ pick01 (cs.getD 2 false) "key ") ++ pick01 (cs.getD 3 false) "index ") ++ pick01 (cs.getD 4 false) "lookup ") ++ pick01 (cs.getD 5 false) "runtime ") ++ pick01 (cs.getD 6 false) "overflow ") ∧ H = H') (fun Q' kQ => ?_) ?_
    · refine ⟨_, rfl, _, rfl, a, D, dd, _, _, _, rfl, .ty _, (.inl ⟨ie, hd⟩), hc.ek, (kits_at hc.py 6 _ rfl), .inr ⟨_, rfl, _, _, rfl, rfl, ?_⟩⟩
      exact ⟨_, _, rfl, rfl, Nat.le_trans (Nat.add_le_add l0 (pick_len _ _)) (by decide +kernel), kQ _ _ ⟨rfl, rfl⟩⟩
    rintro _ _ ⟨rfl, rfl⟩
    have l0 : ((((((((ownText bs ++ (" " : Str)) ++ pick01 (cs.getD 0 false) "span ") ++ pick01 (cs.getD 1 false) "value ") ++ pick01 (cs.getD 2 false) "key ") ++ pick01 (cs.getD 3 false) "index ") ++ pick01 (cs.getD 4 false) "lookup ") ++ pick01 (cs.getD 5 false) "runtime ") ++ pick01 (cs.getD 6 false) "overflow ").length ≤ 150 := Nat.le_trans (add_len l0 _ _) (by decide +kernel)
    refine a_ret (fun v H' => v = .str (allText bs cs) ∧ H = H') (fun Q' kQ => ?_) (fun v H' e => by rw [e.1, ← e.2]; exact k)
    · refine ⟨_, rfl, _, rfl, a, D, dd, _, _, _, rfl, .ty _, (.inl ⟨ie, hd⟩), hc.ek, (kits_at hc.py 7 _ rfl), .inr ⟨_, rfl, _, _, rfl, rfl, ?_⟩⟩
      exact ⟨_, _, rfl, rfl, Nat.le_trans (Nat.add_le_add l0 (pick_len _ _)) (by decide +kernel), kQ _ _ ⟨rfl, rfl⟩⟩
end
/-! ## the dice -/
section
variable {P : Program} {w : World} {K : PySem.W.Frag} {mg : Str → Option Value} {base : Heap} {A : ClsA}
theorem c_dice (T : Txt K mg A) (D : DefAt K mg "_law_dice" s__law_dice ["_law_script", "_law_spot"]) : CalG P w K mg base 1 "_law_dice" ["_law_script", "_law_spot"] (spDice K) := by
  refine calOk D sc__law_dice (fun xs H Q E h => ?_) (fun f cdv A out s H xs Q E hgd hr h => ?_)
  · obtain ⟨a, ns, i, rfl, _⟩ := h
    rfl
  · obtain ⟨a, ns, i, rfl, hS, hz, k⟩ := h
    have nd := sc__law_dice.nd
    refine ⟨_, (pss_cons (ps_set (i := 2) nd rfl (.inl rfl) (pe_ifExp (pt_cmpR op_lt (pv 1) (pe_callB call_len_seq (by rfl) T.len (by decide +kernel) (pa_cons (pv 0) pa_nil)) (nomark _)) (pe_callTy call_int1 (by rfl) T.int (by decide +kernel) (pa_cons (pe_ix ix_list (pv 0) (pv 1) (fun _ _ => rfl)) pa_nil)) (pe_op op_add (pe_op op_mul pe_int (pv 1)) pe_int)))
      (pss_cons (ps_set (i := 3) nd rfl (.inl rfl) (pe_op op_mod (pe_callB (call_max2 rfl) (by rfl) T.max (by decide +kernel) (pa_cons pe_int (pa_cons (pe_op op_sub (pe_callB call_abs (by rfl) T.abs (by decide +kernel) (pa_cons (pv 2) pa_nil)) (pe_op op_pow pe_int pe_int)) pa_nil))) (pe_op op_mulW (pe_op op_pow pe_int pe_int) (pe_op op_pow pe_int pe_int))))
      (pss_one (ps_ret (pe_lst (pa_cons (pv 3) (pa_cons (pe_op op_add (pe_op op_add (pe_op op_add (pe_op op_mul (pe_op op_mod (pe_callB call_abs (by rfl) T.abs (by decide +kernel) (pa_cons (pv 2) pa_nil)) pe_int) pe_int) (pe_op op_mul pe_int (pv 1))) (pe_op op_mul pe_int (pe_callTy call_int1 (by rfl) T.int (by decide +kernel) (pa_cons (pe_cmpR op_lt (pv 2) pe_int (nomark _)) pa_nil)))) pe_int) (pa_cons pe_int pa_nil)))))))), ?_⟩
    refine ⟨_, rfl, _, rfl, _, _, rfl, .inl hS, _, _, rfl, rfl, _, rfl, ite2 (fun hi => ?_) (fun hi => ?_)⟩
    · have hlt : i < ns.length := by
        have := of_decide_eq_true hi
        rw [List.length_map] at this
        omega
      have hat : (ns.map V.int)[i]? = some (.int ns[i]) := by
        rw [List.getElem?_map, List.getElem?_eq_getElem hlt]
        rfl
      refine ⟨_, rfl, _, rfl, _, _, _, _, rfl, rfl, hS, atI_nat hat, .inl ⟨_, rfl, ?_⟩⟩
      refine ⟨_, rfl, _, rfl, _, _, rfl, rfl, ⟨by decide, by decide, by decide⟩, _, _, rfl, rfl, _, _, rfl, _, _, rfl, rfl, ⟨by decide, by decide, by decide⟩, _, _, rfl, rfl, ⟨by decide, by decide, by decide⟩, _, _, rfl, rfl, mul60, _, _, rfl, rfl, pos60, ?_⟩
      refine ⟨_, rfl, _, rfl, _, rfl, _, _, rfl, rfl, (by show (0 : Int) < 1152921504606846961; decide), _, _, rfl, rfl, .inr ⟨by decide, by decide⟩, _, rfl, _, _, rfl, rfl, .inl ⟨by decide, by decide⟩, _, _, rfl, rfl, _, rfl, _, _, rfl, rfl, .inr ⟨_, rfl, _, _, rfl, rfl, .inl ⟨by decide, by decide⟩, _, _, rfl, rfl, _, _, rfl, rfl, (by show 3 ≤ sizeLine; decide), fun p1 n1 => ?_⟩⟩
      exact k _ _ _ _ n1
    · refine ⟨_, rfl, _, _, rfl, rfl, .inl ⟨by decide, by decide⟩, _, _, rfl, rfl, ?_⟩
      refine ⟨_, rfl, _, rfl, _, _, rfl, rfl, ⟨by decide, by decide, by decide⟩, _, _, rfl, rfl, _, _, rfl, _, _, rfl, rfl, ⟨by decide, by decide, by decide⟩, _, _, rfl, rfl, ⟨by decide, by decide, by decide⟩, _, _, rfl, rfl, mul60, _, _, rfl, rfl, pos60, ?_⟩
      refine ⟨_, rfl, _, rfl, _, rfl, _, _, rfl, rfl, (by show (0 : Int) < 1152921504606846961; decide), _, _, rfl, rfl, .inr ⟨by decide, by decide⟩, _, rfl, _, _, rfl, rfl, .inl ⟨by decide, by decide⟩, _, _, rfl, rfl, _, rfl, _, _, rfl, rfl, .inr ⟨_, rfl, _, _, rfl, rfl, .inl ⟨by decide, by decide⟩, _, _, rfl, rfl, _, _, rfl, rfl, (by show 3 ≤ sizeLine; decide), fun p1 n1 => ?_⟩⟩
      exact k _ _ _ _ n1
theorem c_roll (T : Txt K mg A) (D : DefAt K mg "_law_roll" s__law_roll ["_law_dice_here", "_law_total"]) : CalG P w K mg base 1 "_law_roll" ["_law_dice_here", "_law_total"] spRoll := by
  refine calOk D sc__law_roll (fun xs H Q E h => ?_) (fun f cdv A out s H xs Q E hgd hr h => ?_)
  · obtain ⟨d, t, rfl, _⟩ := h
    rfl
  · obtain ⟨d, t, rfl, ⟨l, sd, c, hd⟩, ht, hlog, k⟩ := h
    have nd := sc__law_roll.nd
    have fr : ∀ (u : HO) (b : Addr), H b = none → upd H d u b = none := fun u b e => by
      rw [upd_ne (fun q => by rw [q, hd] at e; cases e)]
      exact e
    refine ⟨_, (pss_cons (ps_if (pt_cmpR op_gt (pe_ix ix_list (pv 0) pe_int (fun _ _ => rfl)) pe_int (nomark _)) (pss_cons (ps_set (i := 2) nd rfl (.inl rfl) (pe_op op_mod (pe_callTy call_int1 (by rfl) T.int (by decide +kernel) (pa_cons (pe_ix ix_list (pv 0) pe_int (fun _ _ => rfl)) pa_nil)) (pv 1)))
        (pss_cons (ps_asg (pe_op op_fdivW (pe_ix ix_list (pv 0) pe_int (fun _ _ => rfl)) (pv 1)) (pg_sub (pv 0) pe_int set_list))
        (pss_one (ps_ret (pv 2))))) pss_nil)
      (pss_cons (ps_asg (pe_op op_add (pe_ix ix_list (pv 0) pe_int (fun _ _ => rfl)) pe_int) (pg_sub (pv 0) pe_int set_list))
      (pss_cons (ps_set (i := 3) nd rfl (.inl rfl) (pe_op op_mod (pe_callTy call_int1 (by rfl) T.int (by decide +kernel) (pa_cons (pe_op op_add (pe_ix ix_list (pv 0) pe_int (fun _ _ => rfl)) (pe_op op_mul pe_int (pe_ix ix_list (pv 0) pe_int (fun _ _ => rfl)))) pa_nil)) pe_int))
      (pss_cons (ps_set (i := 4) nd rfl (.inl rfl) (pe_op op_add (pe_op op_mul (pe_op op_mod (pe_callTy call_int1 (by rfl) T.int (by decide +kernel) (pa_cons (pe_op op_add (pe_op op_mulW (pv 3) (pv 3)) (pe_op op_mul pe_int (pe_ix ix_list (pv 0) pe_int (fun _ _ => rfl)))) pa_nil)) pe_int) pe_int) (pv 3)))
      (pss_one (ps_ret (pe_op op_mod (pe_callTy call_int1 (by rfl) T.int (by decide +kernel) (pa_cons (pe_op op_fdivW (pv 4) pe_int) pa_nil)) (pv 1)))))))), ?_⟩
    refine ⟨_, rfl, _, _, _, _, rfl, rfl, SqL.of hd, atI_nat (j := 0) rfl, _, _, rfl, rfl, _, rfl, ite2 (fun hl => ?_) (fun hl => ?_)⟩
    · refine ⟨_, rfl, _, _, _, _, rfl, rfl, SqL.of hd, atI_nat (j := 0) rfl, .inl ⟨_, rfl, _, rfl, _, _, rfl, rfl, ht, ?_⟩⟩
      refine ⟨_, rfl, _, _, _, _, rfl, rfl, SqL.of hd, atI_nat (j := 0) rfl, _, rfl, _, _, rfl, rfl, ⟨ht, hlog⟩, _, rfl, _, _, _, 0, rfl, rfl, hd, rfl, ?_⟩
      refine ⟨_, rfl, ?_⟩
      exact k _ _ (Int.emod_nonneg _ (by omega)) (Int.emod_lt_of_pos _ ht) (Mv.refl ⟨l, sd, c, hd⟩).rolled (fr _)
    · refine ⟨_, rfl, _, _, _, _, rfl, rfl, SqL.of hd, atI_nat (j := 2) rfl, _, _, rfl, rfl, _, rfl, _, _, _, 2, rfl, rfl, hd, rfl, ?_⟩
      have h1 : upd H d (.lst [.int l, .int sd, .int (c + 1)]) d = some (.lst [.int l, .int sd, .int (c + 1)]) := upd_same
      refine ⟨_, rfl, _, _, _, _, rfl, rfl, SqL.of h1, atI_nat (j := 1) rfl, _, rfl, _, _, _, _, rfl, rfl, SqL.of h1, atI_nat (j := 2) rfl, _, _, rfl, rfl, .inl ⟨by decide, by decide⟩, _, _, rfl, rfl, .inl ⟨_, rfl, _, _, rfl, rfl, (by show (0 : Int) < 2305843009213693669; decide), ?_⟩⟩
      have hb := Int.emod_lt_of_pos (sd + 32452843 * (c + 1)) (show (0 : Int) < 2305843009213693669 by decide)
      have hn := Int.emod_nonneg (sd + 32452843 * (c + 1)) (show (2305843009213693669 : Int) ≠ 0 by decide)
      have hs : ((sd + 32452843 * (c + 1)) % 2305843009213693669).natAbs < 2 ^ 62 := by
        have e : (2 : Nat) ^ 62 = 4611686018427387904 := by decide
        omega
      refine ⟨_, rfl, _, rfl, _, _, rfl, rfl, wide_mul hs hs (by decide) (by decide) (by decide), _, rfl, _, _, _, _, rfl, rfl, SqL.of h1, atI_nat (j := 2) rfl, _, _, rfl, rfl, .inl ⟨by decide, by decide⟩, _, _, rfl, rfl, .inl ⟨_, rfl, _, _, rfl, rfl, (by show (0 : Int) < 1152921504606846869; decide), _, _, rfl, rfl, .inr ⟨by decide, by decide⟩, _, rfl, _, _, rfl, rfl, ?_⟩⟩
      refine ⟨_, rfl, _, _, rfl, rfl, ⟨by decide, by decide +kernel⟩, .inl ⟨_, rfl, _, rfl, _, _, rfl, rfl, ht, ?_⟩⟩
      exact k _ _ (Int.emod_nonneg _ (by omega)) (Int.emod_lt_of_pos _ ht) (Mv.refl ⟨l, sd, c, hd⟩).rolled (fr _)
theorem c_pick (T : Txt K mg A) (C__law_roll : CalG P w K mg base 1 "_law_roll" ["_law_dice_here", "_law_total"] spRoll) (D : DefAt K mg "_law_pick" s__law_pick ["_law_dice_here", "_law_items"]) : CalG P w K mg base 2 "_law_pick" ["_law_dice_here", "_law_items"] (spPick K) := by
  refine calOk D sc__law_pick (fun xs H Q E h => ?_) (fun f cdv A out s H xs Q E hgd hr h => ?_)
  · obtain ⟨d, a, ys, rfl, _⟩ := h
    rfl
  · obtain ⟨d, a, ys, rfl, hd, hS, ne, h0, hz, k⟩ := h
    have nd := sc__law_pick.nd
    refine ⟨_, (pss_one (ps_ret (pe_ix ix_list (pv 1) (pe_k C__law_roll hgd hr (by decide) rfl (pa_cons (pv 0) (pa_cons (pe_callB call_len_seq (by rfl) T.len (by decide +kernel) (pa_cons (pv 1) pa_nil)) pa_nil))) (fun _ _ => rfl)))), ?_⟩
    have small : ((ys.length : Nat) : Int).natAbs.log2 < 9000 := by
      have e : ((ys.length : Nat) : Int).natAbs = ys.length := Int.natAbs_natCast _
      rw [e]
      exact Nat.lt_of_le_of_lt (Nat.log2_le_self _) (by omega)
    refine ⟨_, rfl, _, rfl, _, rfl, _, _, rfl, .inl hS, _, _, rfl, hd, (by omega), small, fun r1 H1 a1 b1 m1 f1 => ?_⟩
    obtain ⟨i, rfl⟩ : ∃ i : Nat, r1 = (i : Int) := ⟨r1.toNat, by omega⟩
    have hi : i < ys.length := by omega
    refine ⟨_, _, _, _, rfl, rfl, m1.sql ne hS, atI_nat (List.getElem?_eq_getElem hi), k _ _ _ (List.getElem?_eq_getElem hi) m1 f1⟩
end

section
variable {P : Program} {w : World} {K : PySem.W.Frag} {mg : Str → Option Value} {base : Heap} {A : ClsA} {fParseError fUnknownName fEmptySequence fInvalidNumber fNothingToUndo fTooMany fRefused fBroken : Addr}
def MSGS : List Str := [(allText [true, false, false, false, false, false, false, false, false, false, false, false, false, false, false, false, false, false] [true, true, false, false, false, false, false, false]), (allText [false, true, false, false, false, false, false, false, false, false, false, false, false, false, false, false, false, false] [true, true, false, false, false, false, false, false]), (allText [false, false, true, false, false, false, false, false, false, false, false, false, false, false, false, false, false, false] [true, true, false, false, false, false, false, false]), (allText [false, false, false, true, false, false, false, false, false, false, false, false, false, false, false, false, false, false] [true, true, false, false, false, false, false, false]), (allText [false, false, false, false, true, false, false, false, false, false, false, false, false, false, false, false, false, false] [true, true, false, false, false, false, false, false]), (allText [false, false, false, false, false, true, false, false, false, false, false, false, false, false, false, false, false, false] [true, true, false, false, false, false, false, false]), (allText [false, false, false, false, false, false, true, false, false, false, false, false, false, false, false, false, false, false] [true, true, false, false, false, false, false, false]), (allText [false, false, false, false, false, false, false, true, false, false, false, false, false, false, false, false, false, false] [true, true, false, false, false, false, false, false]), (allText [false, false, false, false, false, false, false, false, true, false, false, false, false, false, false, false, false, false] [true, true, false, false, false, false, false, false]), (allText [false, false, false, false, false, false, false, false, false, true, false, false, false, false, false, false, false, false] [true, true, false, false, false, false, false, false]), (allText [false, false, false, false, false, false, false, false, false, false, false, false, false, false, false, false, false, false] [true, true, false, false, false, false, false, false])]
def spMsgs : Sp := fun vs H Q _ => vs = [] ∧ ∀ p H', Same H H' → H' p = some (.lst (MSGS.map V.str)) → Q (.ref p) H'
theorem c_messages (T : Txt K mg A) (C : Cls K A) (X_InvalidForm : ErrAt K mg "InvalidForm" A.cInvalidForm veL "ValueError.__new__") (X_InvalidRow : ErrAt K mg "InvalidRow" A.cInvalidRow veL "ValueError.__new__") (X_InvalidReader : ErrAt K mg "InvalidReader" A.cInvalidReader veL "ValueError.__new__") (X_InvalidPage : ErrAt K mg "InvalidPage" A.cInvalidPage veL "ValueError.__new__") (X_InvalidBook : ErrAt K mg "InvalidBook" A.cInvalidBook veL "ValueError.__new__") (X_InvalidPlace : ErrAt K mg "InvalidPlace" A.cInvalidPlace veL "ValueError.__new__") (X_InvalidSequence : ErrAt K mg "InvalidSequence" A.cInvalidSequence veL "ValueError.__new__") (X_InvalidPlan : ErrAt K mg "InvalidPlan" A.cInvalidPlan veL "ValueError.__new__") (X_InvalidPaper : ErrAt K mg "InvalidPaper" A.cInvalidPaper veL "ValueError.__new__") (X_InvalidOperation : ErrAt K mg "InvalidOperation" A.cInvalidOperation veL "ValueError.__new__") (X_SpanError : ErrAt K mg "SpanError" A.cSpanError veL "ValueError.__new__") (C__law_all : CalG P w K mg base 2 "_law_all" ["_law_error"] (spAll K A)) (D0 : DefAt K mg "_law_messages" s__law_messages []) : CalG P w K mg base 3 "_law_messages" [] spMsgs := by
  refine calOk D0 sc__law_messages (fun xs H Q E h => by rw [h.1]; rfl) (fun f cdv A' out s H xs Q E hgd hr h => ?_)
  obtain ⟨rfl, k⟩ := h
  have nd := sc__law_messages.nd
  refine ⟨_, (pss_cons (ps_set (i := 0) nd rfl (.inl rfl) (pe_lst (pa_cons (pe_k C__law_all hgd hr (by decide) rfl (pa_cons (pe_exc1 PySem.F.excBase_ValueError X_InvalidForm.exc X_InvalidForm.at_ X_InvalidForm.keep rfl pe_str) pa_nil)) (pa_cons (pe_k C__law_all hgd hr (by decide) rfl (pa_cons (pe_exc1 PySem.F.excBase_ValueError X_InvalidRow.exc X_InvalidRow.at_ X_InvalidRow.keep rfl pe_str) pa_nil)) (pa_cons (pe_k C__law_all hgd hr (by decide) rfl (pa_cons (pe_exc1 PySem.F.excBase_ValueError X_InvalidReader.exc X_InvalidReader.at_ X_InvalidReader.keep rfl pe_str) pa_nil)) pa_nil)))))
      (pss_cons (ps_set (i := 0) nd rfl (.inl rfl) (pe_op op_cat (pv 0) (pe_lst (pa_cons (pe_k C__law_all hgd hr (by decide) rfl (pa_cons (pe_exc1 PySem.F.excBase_ValueError X_InvalidPage.exc X_InvalidPage.at_ X_InvalidPage.keep rfl pe_str) pa_nil)) (pa_cons (pe_k C__law_all hgd hr (by decide) rfl (pa_cons (pe_exc1 PySem.F.excBase_ValueError X_InvalidBook.exc X_InvalidBook.at_ X_InvalidBook.keep rfl pe_str) pa_nil)) (pa_cons (pe_k C__law_all hgd hr (by decide) rfl (pa_cons (pe_exc1 PySem.F.excBase_ValueError X_InvalidPlace.exc X_InvalidPlace.at_ X_InvalidPlace.keep rfl pe_str) pa_nil)) pa_nil))))))
      (pss_cons (ps_set (i := 0) nd rfl (.inl rfl) (pe_op op_cat (pv 0) (pe_lst (pa_cons (pe_k C__law_all hgd hr (by decide) rfl (pa_cons (pe_exc1 PySem.F.excBase_ValueError X_InvalidSequence.exc X_InvalidSequence.at_ X_InvalidSequence.keep rfl pe_str) pa_nil)) (pa_cons (pe_k C__law_all hgd hr (by decide) rfl (pa_cons (pe_exc1 PySem.F.excBase_ValueError X_InvalidPlan.exc X_InvalidPlan.at_ X_InvalidPlan.keep rfl pe_str) pa_nil)) (pa_cons (pe_k C__law_all hgd hr (by decide) rfl (pa_cons (pe_exc1 PySem.F.excBase_ValueError X_InvalidPaper.exc X_InvalidPaper.at_ X_InvalidPaper.keep rfl pe_str) pa_nil)) pa_nil))))))
      (pss_one (ps_ret (pe_op op_cat (pv 0) (pe_lst (pa_cons (pe_k C__law_all hgd hr (by decide) rfl (pa_cons (pe_exc1 PySem.F.excBase_ValueError X_InvalidOperation.exc X_InvalidOperation.at_ X_InvalidOperation.keep rfl pe_str) pa_nil)) (pa_cons (pe_k C__law_all hgd hr (by decide) rfl (pa_cons (pe_exc1 PySem.F.excBase_ValueError X_SpanError.exc X_SpanError.at_ X_SpanError.keep rfl pe_str) pa_nil)) pa_nil))))))))), ?_⟩
  have s0 := Same.refl H
  refine a_set (fun v H' => ∃ p, v = .ref p ∧ Same H H' ∧ H' p = some (.lst ([(allText [true, false, false, false, false, false, false, false, false, false, false, false, false, false, false, false, false, false] [true, true, false, false, false, false, false, false]), (allText [false, true, false, false, false, false, false, false, false, false, false, false, false, false, false, false, false, false] [true, true, false, false, false, false, false, false]), (allText [false, false, true, false, false, false, false, false, false, false, false, false, false, false, false, false, false, false] [true, true, false, false, false, false, false, false])].map V.str))) (fun Q' kQ => ?_) ?_
  · refine fun a na => ?_
    replace s0 := s0.trans (same_new (o := ExO (.ref A.cInvalidForm) a) na)
    refine ⟨a, A.cInvalidForm, none, _, _, rfl, isE_new, (fun _ z => nomatch z), C.hInvalidForm, ?_⟩
    refine fun a na => ?_
    replace s0 := s0.trans (same_new (o := ExO (.ref A.cInvalidRow) a) na)
    refine ⟨a, A.cInvalidRow, none, _, _, rfl, isE_new, (fun _ z => nomatch z), C.hInvalidRow, ?_⟩
    refine fun a na => ?_
    replace s0 := s0.trans (same_new (o := ExO (.ref A.cInvalidReader) a) na)
    refine ⟨a, A.cInvalidReader, none, _, _, rfl, isE_new, (fun _ z => nomatch z), C.hInvalidReader, ?_⟩
    exact ⟨(by show 3 ≤ sizeLine; decide), fun p np => kQ _ _ ⟨p, rfl, s0.trans (same_new np), upd_same⟩⟩
  clear s0
  rintro _ H0 ⟨p, rfl, s0, hp⟩
  refine a_set (fun v H' => ∃ p, v = .ref p ∧ Same H H' ∧ H' p = some (.lst ([(allText [true, false, false, false, false, false, false, false, false, false, false, false, false, false, false, false, false, false] [true, true, false, false, false, false, false, false]), (allText [false, true, false, false, false, false, false, false, false, false, false, false, false, false, false, false, false, false] [true, true, false, false, false, false, false, false]), (allText [false, false, true, false, false, false, false, false, false, false, false, false, false, false, false, false, false, false] [true, true, false, false, false, false, false, false]), (allText [false, false, false, true, false, false, false, false, false, false, false, false, false, false, false, false, false, false] [true, true, false, false, false, false, false, false]), (allText [false, false, false, false, true, false, false, false, false, false, false, false, false, false, false, false, false, false] [true, true, false, false, false, false, false, false]), (allText [false, false, false, false, false, true, false, false, false, false, false, false, false, false, false, false, false, false] [true, true, false, false, false, false, false, false])].map V.str))) (fun Q' kQ => ?_) ?_
  · refine ⟨_, rfl, fun a na => ?_⟩
    replace s0 := s0.trans (same_new (o := ExO (.ref A.cInvalidPage) a) na)
    replace hp := same_new (o := ExO (.ref A.cInvalidPage) a) na _ _ hp
    refine ⟨a, A.cInvalidPage, none, _, _, rfl, isE_new, (fun _ z => nomatch z), C.hInvalidPage, ?_⟩
    refine fun a na => ?_
    replace s0 := s0.trans (same_new (o := ExO (.ref A.cInvalidBook) a) na)
    replace hp := same_new (o := ExO (.ref A.cInvalidBook) a) na _ _ hp
    refine ⟨a, A.cInvalidBook, none, _, _, rfl, isE_new, (fun _ z => nomatch z), C.hInvalidBook, ?_⟩
    refine fun a na => ?_
    replace s0 := s0.trans (same_new (o := ExO (.ref A.cInvalidPlace) a) na)
    replace hp := same_new (o := ExO (.ref A.cInvalidPlace) a) na _ _ hp
    refine ⟨a, A.cInvalidPlace, none, _, _, rfl, isE_new, (fun _ z => nomatch z), C.hInvalidPlace, ?_⟩
    refine ⟨(by show 3 ≤ sizeLine; decide), fun q nq => ?_⟩
    refine ⟨p, q, _, _, rfl, rfl, same_new nq _ _ hp, upd_same, (by show 6 ≤ sizeLine; decide), fun p2 np2 => ?_⟩
    exact kQ _ _ ⟨p2, rfl, (s0.trans (same_new nq)).trans (same_new np2), upd_same⟩
  clear hp
  clear s0
  rintro _ H1 ⟨p, rfl, s0, hp⟩
  refine a_set (fun v H' => ∃ p, v = .ref p ∧ Same H H' ∧ H' p = some (.lst ([(allText [true, false, false, false, false, false, false, false, false, false, false, false, false, false, false, false, false, false] [true, true, false, false, false, false, false, false]), (allText [false, true, false, false, false, false, false, false, false, false, false, false, false, false, false, false, false, false] [true, true, false, false, false, false, false, false]), (allText [false, false, true, false, false, false, false, false, false, false, false, false, false, false, false, false, false, false] [true, true, false, false, false, false, false, false]), (allText [false, false, false, true, false, false, false, false, false, false, false, false, false, false, false, false, false, false] [true, true, false, false, false, false, false, false]), (allText [false, false, false, false, true, false, false, false, false, false, false, false, false, false, false, false, false, false] [true, true, false, false, false, false, false, false]), (allText [false, false, false, false, false, true, false, false, false, false, false, false, false, false, false, false, false, false] [true, true, false, false, false, false, false, false]), (allText [false, false, false, false, false, false, true, false, false, false, false, false, false, false, false, false, false, false] [true, true, false, false, false, false, false, false]), (allText [false, false, false, false, false, false, false, true, false, false, false, false, false, false, false, false, false, false] [true, true, false, false, false, false, false, false]), (allText [false, false, false, false, false, false, false, false, true, false, false, false, false, false, false, false, false, false] [true, true, false, false, false, false, false, false])].map V.str))) (fun Q' kQ => ?_) ?_
  · refine ⟨_, rfl, fun a na => ?_⟩
    replace s0 := s0.trans (same_new (o := ExO (.ref A.cInvalidSequence) a) na)
    replace hp := same_new (o := ExO (.ref A.cInvalidSequence) a) na _ _ hp
    refine ⟨a, A.cInvalidSequence, none, _, _, rfl, isE_new, (fun _ z => nomatch z), C.hInvalidSequence, ?_⟩
    refine fun a na => ?_
    replace s0 := s0.trans (same_new (o := ExO (.ref A.cInvalidPlan) a) na)
    replace hp := same_new (o := ExO (.ref A.cInvalidPlan) a) na _ _ hp
    refine ⟨a, A.cInvalidPlan, none, _, _, rfl, isE_new, (fun _ z => nomatch z), C.hInvalidPlan, ?_⟩
    refine fun a na => ?_
    replace s0 := s0.trans (same_new (o := ExO (.ref A.cInvalidPaper) a) na)
    replace hp := same_new (o := ExO (.ref A.cInvalidPaper) a) na _ _ hp
    refine ⟨a, A.cInvalidPaper, none, _, _, rfl, isE_new, (fun _ z => nomatch z), C.hInvalidPaper, ?_⟩
    refine ⟨(by show 3 ≤ sizeLine; decide), fun q nq => ?_⟩
    refine ⟨p, q, _, _, rfl, rfl, same_new nq _ _ hp, upd_same, (by show 9 ≤ sizeLine; decide), fun p2 np2 => ?_⟩
    exact kQ _ _ ⟨p2, rfl, (s0.trans (same_new nq)).trans (same_new np2), upd_same⟩
  clear hp
  clear s0
  rintro _ H2 ⟨p, rfl, s0, hp⟩
  refine a_ret (fun v H' => ∃ p, v = .ref p ∧ Same H H' ∧ H' p = some (.lst ([(allText [true, false, false, false, false, false, false, false, false, false, false, false, false, false, false, false, false, false] [true, true, false, false, false, false, false, false]), (allText [false, true, false, false, false, false, false, false, false, false, false, false, false, false, false, false, false, false] [true, true, false, false, false, false, false, false]), (allText [false, false, true, false, false, false, false, false, false, false, false, false, false, false, false, false, false, false] [true, true, false, false, false, false, false, false]), (allText [false, false, false, true, false, false, false, false, false, false, false, false, false, false, false, false, false, false] [true, true, false, false, false, false, false, false]), (allText [false, false, false, false, true, false, false, false, false, false, false, false, false, false, false, false, false, false] [true, true, false, false, false, false, false, false]), (allText [false, false, false, false, false, true, false, false, false, false, false, false, false, false, false, false, false, false] [true, true, false, false, false, false, false, false]), (allText [false, false, false, false, false, false, true, false, false, false, false, false, false, false, false, false, false, false] [true, true, false, false, false, false, false, false]), (allText [false, false, false, false, false, false, false, true, false, false, false, false, false, false, false, false, false, false] [true, true, false, false, false, false, false, false]), (allText [false, false, false, false, false, false, false, false, true, false, false, false, false, false, false, false, false, false] [true, true, false, false, false, false, false, false]), (allText [false, false, false, false, false, false, false, false, false, true, false, false, false, false, false, false, false, false] [true, true, false, false, false, false, false, false]), (allText [false, false, false, false, false, false, false, false, false, false, false, false, false, false, false, false, false, false] [true, true, false, false, false, false, false, false])].map V.str))) (fun Q' kQ => ?_) (fun v H' e => by obtain ⟨p, rfl, s1, hp⟩ := e; exact k p H' s1 hp)
  · refine ⟨_, rfl, fun a na => ?_⟩
    replace s0 := s0.trans (same_new (o := ExO (.ref A.cInvalidOperation) a) na)
    replace hp := same_new (o := ExO (.ref A.cInvalidOperation) a) na _ _ hp
    refine ⟨a, A.cInvalidOperation, none, _, _, rfl, isE_new, (fun _ z => nomatch z), C.hInvalidOperation, ?_⟩
    refine fun a na => ?_
    replace s0 := s0.trans (same_new (o := ExO (.ref A.cSpanError) a) na)
    replace hp := same_new (o := ExO (.ref A.cSpanError) a) na _ _ hp
    refine ⟨a, A.cSpanError, none, _, _, rfl, isE_new, (fun _ z => nomatch z), C.hSpanError, ?_⟩
    refine ⟨(by show 2 ≤ sizeLine; decide), fun q nq => ?_⟩
    refine ⟨p, q, _, _, rfl, rfl, same_new nq _ _ hp, upd_same, (by show 11 ≤ sizeLine; decide), fun p2 np2 => ?_⟩
    exact kQ _ _ ⟨p2, rfl, (s0.trans (same_new nq)).trans (same_new np2), upd_same⟩
theorem newE {H : Hp} {d e C : Addr} {fs : List (Str × V)} (n : H d = none) (m : H e = none) (ne : d ≠ e) : Same H (upd (upd H d (.xd fs)) e (ExD C d e)) ∧ IsE (upd (upd H d (.xd fs)) e (ExD C d e)) e C (some d) ∧ upd (upd H d (.xd fs)) e (ExD C d e) d = some (.xd fs) :=
  ⟨(same_new n).trans (same_new (by rw [upd_ne ne.symm]; exact m)), isE_newD, by rw [upd_ne ne, upd_same]⟩
def EX (H : Hp) (C : Addr) (f : Str) (v x : V) : Prop := ∃ e d, x = .ref e ∧ IsE H e C (some d) ∧ H d = some (.xd [(f, v)])
theorem Dx.lstOf {H : Hp} {x : V} {ds : List PyData} (h : Dx H x (.list ds)) : ∃ a xs, x = .ref a ∧ H a = some (.lst xs) ∧ DxAll H xs ds := by
  cases h with
  | lst h1 h2 => exact ⟨_, _, rfl, h1, h2⟩
theorem a_par {i j : Nat} {ta : TA} {rest : TS} {D : Ends} {σ : L2.St} {H : Hp} (R : V → V → Hp → Prop) (h : ∀ Q' : List V → Hp → Prop, (∀ v w H', R v w H' → Q' [v, w] H') → ta σ H Q')
    (k : ∀ v w H', R v w H' → rest D ((σ.set i (some v)).set j (some w)) H') : tSeq (tPar i j ta) rest D σ H := h _ fun v w H' r => ⟨v, w, rfl, k v w H' r⟩
theorem a_par3 {i j l : Nat} {ta : TA} {rest : TS} {D : Ends} {σ : L2.St} {H : Hp} (R : V → V → V → Hp → Prop) (h : ∀ Q' : List V → Hp → Prop, (∀ u v w H', R u v w H' → Q' [u, v, w] H') → ta σ H Q')
    (k : ∀ u v w H', R u v w H' → rest D (((σ.set i (some u)).set j (some v)).set l (some w)) H') : tSeq (tPar3 i j l ta) rest D σ H := h _ fun u v w H' r => ⟨u, v, w, rfl, k u v w H' r⟩
theorem dct_of {H : Hp} {d : Addr} {fs : List (Str × V)} (h : H d = some (.xd fs)) : Dct H (some d) := fun _ z => by
  cases z
  exact ⟨fs, h⟩
def keptD (dv di : PyData) : PyData := .list [.tuple [.str (allText [false, false, false, false, false, false, false, false, false, false, true, false, false, false, false, false, false, false] [true, true, false, false, false, false, false, false]), di], .tuple [.str (allText [false, false, false, false, false, false, false, false, false, false, false, true, false, false, false, false, false, false] [false, false, true, false, true, false, false, false]), dv], .tuple [.str (allText [false, false, false, false, false, false, false, false, false, false, false, false, true, false, false, false, false, false] [false, false, false, false, true, false, false, false]), dv], .tuple [.str (allText [false, false, false, false, false, false, false, false, false, false, false, false, false, true, false, false, false, false] [false, false, false, true, true, false, false, false]), dv], .tuple [.str (allText [false, false, false, false, false, false, false, false, false, false, false, false, false, false, true, false, false, false] [false, false, false, false, false, true, false, false]), dv], .tuple [.str (allText [false, false, false, false, false, false, false, false, false, false, false, false, false, false, false, true, false, false] [false, false, false, false, false, false, true, true]), dv], .tuple [.str (allText [false, false, false, false, false, false, false, false, false, false, false, false, false, false, false, false, true, false] [false, false, false, false, false, false, false, true]), dv], .tuple [.str (allText [false, false, false, false, false, false, false, false, false, false, false, false, false, false, false, false, false, true] [false, false, false, false, false, false, false, true]), dv]]
def spKept : Sp := fun vs H Q _ => ∃ (v i : V) (dv di : PyData), vs = [v, i] ∧ Dx H v dv ∧ Dx H i di ∧ ∀ p H', Same H H' → Dx H' (.ref p) (keptD dv di) → Q (.ref p) H'

theorem c_kept (T : Txt K mg A) (C : Cls K A) (O_ParseError : OwnParseError.Txt K mg A.cParseError fParseError) (O_UnknownName : OwnUnknownName.Txt K mg A.cUnknownName fUnknownName) (O_EmptySequence : OwnEmptySequence.Txt K mg A.cEmptySequence fEmptySequence) (O_InvalidNumber : OwnInvalidNumber.Txt K mg A.cInvalidNumber fInvalidNumber) (O_NothingToUndo : OwnNothingToUndo.Txt K mg A.cNothingToUndo fNothingToUndo) (O_TooMany : OwnTooMany.Txt K mg A.cTooMany fTooMany) (O_Refused : OwnRefused.Txt K mg A.cRefused fRefused) (O_Broken : OwnBroken.Txt K mg A.cBroken fBroken) (C__law_all : CalG P w K mg base 2 "_law_all" ["_law_error"] (spAll K A)) (D0 : DefAt K mg "_law_kept" s__law_kept ["_law_value", "_law_index"]) : CalG P w K mg base 3 "_law_kept" ["_law_value", "_law_index"] spKept := by
  refine calOk D0 sc__law_kept (fun xs H Q E h => ?_) (fun f cdv A' out s H xs Q E hgd hr h => ?_)
  · obtain ⟨v, i, dv, di, rfl, _⟩ := h
    rfl
  · obtain ⟨v, i, dv, di, rfl, hv, hi, k⟩ := h
    have nd := sc__law_kept.nd
    refine ⟨_, (pss_cons (ps_par3 (i := 2) (j := 3) (l := 4) (by rfl) nd rfl rfl rfl (by decide) (by decide) (by decide) rfl rfl rfl (pa_cons (OwnParseError.pe_mkv O_ParseError hr rfl (pa_cons (pv 1) pa_nil)) (pa_cons (OwnUnknownName.pe_mkv O_UnknownName hr rfl (pa_cons (pv 0) pa_nil)) (pa_cons (OwnEmptySequence.pe_mkv O_EmptySequence hr rfl (pa_cons (pv 0) pa_nil)) pa_nil))) (by rfl))
      (pss_cons (ps_par3 (i := 5) (j := 6) (l := 7) (by rfl) nd rfl rfl rfl (by decide) (by decide) (by decide) rfl rfl rfl (pa_cons (OwnInvalidNumber.pe_mkv O_InvalidNumber hr rfl (pa_cons (pv 0) pa_nil)) (pa_cons (OwnNothingToUndo.pe_mkv O_NothingToUndo hr rfl (pa_cons (pv 0) pa_nil)) (pa_cons (OwnTooMany.pe_mkv O_TooMany hr rfl (pa_cons (pv 0) pa_nil)) pa_nil))) (by rfl))
      (pss_cons (ps_par (i := 8) (j := 9) (by rfl) nd rfl rfl (by decide) rfl rfl (pa_cons (OwnRefused.pe_mkv O_Refused hr rfl (pa_cons (pv 0) pa_nil)) (pa_cons (OwnBroken.pe_mkv O_Broken hr rfl (pa_cons (pv 0) pa_nil)) pa_nil)) (by rfl))
      (pss_cons (ps_set (i := 10) nd rfl (.inl rfl) (pe_lst (pa_cons (pe_tup (pa_cons (pe_k C__law_all hgd hr (by decide) rfl (pa_cons (pv 2) pa_nil)) (pa_cons (OwnParseError.pe_fldv O_ParseError (pv 2)) pa_nil))) (pa_cons (pe_tup (pa_cons (pe_k C__law_all hgd hr (by decide) rfl (pa_cons (pv 3) pa_nil)) (pa_cons (OwnUnknownName.pe_fldv O_UnknownName (pv 3)) pa_nil))) (pa_cons (pe_tup (pa_cons (pe_k C__law_all hgd hr (by decide) rfl (pa_cons (pv 4) pa_nil)) (pa_cons (OwnEmptySequence.pe_fldv O_EmptySequence (pv 4)) pa_nil))) pa_nil)))))
      (pss_cons (ps_set (i := 10) nd rfl (.inl rfl) (pe_op op_cat (pv 10) (pe_lst (pa_cons (pe_tup (pa_cons (pe_k C__law_all hgd hr (by decide) rfl (pa_cons (pv 5) pa_nil)) (pa_cons (OwnInvalidNumber.pe_fldv O_InvalidNumber (pv 5)) pa_nil))) (pa_cons (pe_tup (pa_cons (pe_k C__law_all hgd hr (by decide) rfl (pa_cons (pv 6) pa_nil)) (pa_cons (OwnNothingToUndo.pe_fldv O_NothingToUndo (pv 6)) pa_nil))) (pa_cons (pe_tup (pa_cons (pe_k C__law_all hgd hr (by decide) rfl (pa_cons (pv 7) pa_nil)) (pa_cons (OwnTooMany.pe_fldv O_TooMany (pv 7)) pa_nil))) pa_nil))))))
      (pss_one (ps_ret (pe_op op_cat (pv 10) (pe_lst (pa_cons (pe_tup (pa_cons (pe_k C__law_all hgd hr (by decide) rfl (pa_cons (pv 8) pa_nil)) (pa_cons (OwnRefused.pe_fldv O_Refused (pv 8)) pa_nil))) (pa_cons (pe_tup (pa_cons (pe_k C__law_all hgd hr (by decide) rfl (pa_cons (pv 9) pa_nil)) (pa_cons (OwnBroken.pe_fldv O_Broken (pv 9)) pa_nil))) pa_nil))))))))))), ?_⟩
    have s0 := Same.refl H
    refine a_par3 (fun x1 x2 x3 H' => Same H H' ∧ EX H' A.cParseError "number" i x1 ∧ EX H' A.cUnknownName "word" v x2 ∧ EX H' A.cEmptySequence "tried" v x3) (fun Q' kQ => ?_) ?_
    · have s1 := Same.refl H
      refine ⟨_, rfl, i, rfl, fun d1 e1 nd1 ne1 de1 => ?_⟩
      obtain ⟨sN, ie1, xd1⟩ := newE (C := A.cParseError) (fs := [(("number" : Str), i)]) nd1 ne1 de1
      replace s1 := s1.trans sN
      clear sN
      refine ⟨_, rfl, v, rfl, fun d2 e2 nd2 ne2 de2 => ?_⟩
      obtain ⟨sN, ie2, xd2⟩ := newE (C := A.cUnknownName) (fs := [(("word" : Str), v)]) nd2 ne2 de2
      replace ie1 := ie1.grow sN
      replace xd1 := sN _ _ xd1
      replace s1 := s1.trans sN
      clear sN
      refine ⟨_, rfl, v, rfl, fun d3 e3 nd3 ne3 de3 => ?_⟩
      obtain ⟨sN, ie3, xd3⟩ := newE (C := A.cEmptySequence) (fs := [(("tried" : Str), v)]) nd3 ne3 de3
      replace ie1 := ie1.grow sN
      replace xd1 := sN _ _ xd1
      replace ie2 := ie2.grow sN
      replace xd2 := sN _ _ xd2
      replace s1 := s1.trans sN
      clear sN
      exact kQ _ _ _ _ ⟨s1, ⟨_, _, rfl, ie1, xd1⟩, ⟨_, _, rfl, ie2, xd2⟩, ⟨_, _, rfl, ie3, xd3⟩⟩
    rintro _ _ _ P1 ⟨sN, ⟨e1, d1, rfl, ie1, xd1⟩, ⟨e2, d2, rfl, ie2, xd2⟩, ⟨e3, d3, rfl, ie3, xd3⟩⟩
    replace s0 := s0.trans sN
    clear sN
    refine a_par3 (fun x4 x5 x6 H' => Same P1 H' ∧ EX H' A.cInvalidNumber "value" v x4 ∧ EX H' A.cNothingToUndo "many" v x5 ∧ EX H' A.cTooMany "limit" v x6) (fun Q' kQ => ?_) ?_
    · have s1 := Same.refl P1
      refine ⟨_, rfl, v, rfl, fun d4 e4 nd4 ne4 de4 => ?_⟩
      obtain ⟨sN, ie4, xd4⟩ := newE (C := A.cInvalidNumber) (fs := [(("value" : Str), v)]) nd4 ne4 de4
      replace s1 := s1.trans sN
      clear sN
      refine ⟨_, rfl, v, rfl, fun d5 e5 nd5 ne5 de5 => ?_⟩
      obtain ⟨sN, ie5, xd5⟩ := newE (C := A.cNothingToUndo) (fs := [(("many" : Str), v)]) nd5 ne5 de5
      replace ie4 := ie4.grow sN
      replace xd4 := sN _ _ xd4
      replace s1 := s1.trans sN
      clear sN
      refine ⟨_, rfl, v, rfl, fun d6 e6 nd6 ne6 de6 => ?_⟩
      obtain ⟨sN, ie6, xd6⟩ := newE (C := A.cTooMany) (fs := [(("limit" : Str), v)]) nd6 ne6 de6
      replace ie4 := ie4.grow sN
      replace xd4 := sN _ _ xd4
      replace ie5 := ie5.grow sN
      replace xd5 := sN _ _ xd5
      replace s1 := s1.trans sN
      clear sN
      exact kQ _ _ _ _ ⟨s1, ⟨_, _, rfl, ie4, xd4⟩, ⟨_, _, rfl, ie5, xd5⟩, ⟨_, _, rfl, ie6, xd6⟩⟩
    rintro _ _ _ P2 ⟨sN, ⟨e4, d4, rfl, ie4, xd4⟩, ⟨e5, d5, rfl, ie5, xd5⟩, ⟨e6, d6, rfl, ie6, xd6⟩⟩
    replace ie1 := ie1.grow sN
    replace xd1 := sN _ _ xd1
    replace ie2 := ie2.grow sN
    replace xd2 := sN _ _ xd2
    replace ie3 := ie3.grow sN
    replace xd3 := sN _ _ xd3
    replace s0 := s0.trans sN
    clear sN
    refine a_par (fun x7 x8 H' => Same P2 H' ∧ EX H' A.cRefused "pledge" v x7 ∧ EX H' A.cBroken "row" v x8) (fun Q' kQ => ?_) ?_
    · have s1 := Same.refl P2
      refine ⟨_, rfl, v, rfl, fun d7 e7 nd7 ne7 de7 => ?_⟩
      obtain ⟨sN, ie7, xd7⟩ := newE (C := A.cRefused) (fs := [(("pledge" : Str), v)]) nd7 ne7 de7
      replace s1 := s1.trans sN
      clear sN
      refine ⟨_, rfl, v, rfl, fun d8 e8 nd8 ne8 de8 => ?_⟩
      obtain ⟨sN, ie8, xd8⟩ := newE (C := A.cBroken) (fs := [(("row" : Str), v)]) nd8 ne8 de8
      replace ie7 := ie7.grow sN
      replace xd7 := sN _ _ xd7
      replace s1 := s1.trans sN
      clear sN
      exact kQ _ _ _ ⟨s1, ⟨_, _, rfl, ie7, xd7⟩, ⟨_, _, rfl, ie8, xd8⟩⟩
    rintro _ _ P3 ⟨sN, ⟨e7, d7, rfl, ie7, xd7⟩, ⟨e8, d8, rfl, ie8, xd8⟩⟩
    replace ie1 := ie1.grow sN
    replace xd1 := sN _ _ xd1
    replace ie2 := ie2.grow sN
    replace xd2 := sN _ _ xd2
    replace ie3 := ie3.grow sN
    replace xd3 := sN _ _ xd3
    replace ie4 := ie4.grow sN
    replace xd4 := sN _ _ xd4
    replace ie5 := ie5.grow sN
    replace xd5 := sN _ _ xd5
    replace ie6 := ie6.grow sN
    replace xd6 := sN _ _ xd6
    replace s0 := s0.trans sN
    clear sN
    refine a_set (fun v H' => ∃ p, v = .ref p ∧ Same P3 H' ∧ Dx H' (.ref p) (.list [.tuple [.str (allText [false, false, false, false, false, false, false, false, false, false, true, false, false, false, false, false, false, false] [true, true, false, false, false, false, false, false]), di], .tuple [.str (allText [false, false, false, false, false, false, false, false, false, false, false, true, false, false, false, false, false, false] [false, false, true, false, true, false, false, false]), dv], .tuple [.str (allText [false, false, false, false, false, false, false, false, false, false, false, false, true, false, false, false, false, false] [false, false, false, false, true, false, false, false]), dv]])) (fun Q' kQ => ?_) ?_
    · have sK := Same.refl P3
      refine ⟨_, rfl, e1, A.cParseError, some d1, _, _, rfl, ie1.grow sK, dct_of (sK _ _ xd1), C.hParseError, ?_⟩
      refine ⟨_, rfl, e1, d1, i, rfl, ie1.grow sK, sK _ _ xd1, (by show 2 ≤ sizeLine; decide), fun t1 nt1 => ?_⟩
      have tN := same_new (o := .tup [.str (allText [false, false, false, false, false, false, false, false, false, false, true, false, false, false, false, false, false, false] [true, true, false, false, false, false, false, false]), i]) nt1
      have y1 : Dx _ (.ref t1) (.tuple [.str (allText [false, false, false, false, false, false, false, false, false, false, true, false, false, false, false, false, false, false] [true, true, false, false, false, false, false, false]), di]) := .tup (upd_same (o := .tup [.str (allText [false, false, false, false, false, false, false, false, false, false, true, false, false, false, false, false, false, false] [true, true, false, false, false, false, false, false]), i])) (.cons (.str _) (.cons ((hi.grow (s0.trans sK)).grow tN) .nil))
      replace sK := sK.trans tN
      clear tN
      refine ⟨_, rfl, e2, A.cUnknownName, some d2, _, _, rfl, ie2.grow sK, dct_of (sK _ _ xd2), C.hUnknownName, ?_⟩
      refine ⟨_, rfl, e2, d2, v, rfl, ie2.grow sK, sK _ _ xd2, (by show 2 ≤ sizeLine; decide), fun t2 nt2 => ?_⟩
      have tN := same_new (o := .tup [.str (allText [false, false, false, false, false, false, false, false, false, false, false, true, false, false, false, false, false, false] [false, false, true, false, true, false, false, false]), v]) nt2
      replace y1 := y1.grow tN
      have y2 : Dx _ (.ref t2) (.tuple [.str (allText [false, false, false, false, false, false, false, false, false, false, false, true, false, false, false, false, false, false] [false, false, true, false, true, false, false, false]), dv]) := .tup (upd_same (o := .tup [.str (allText [false, false, false, false, false, false, false, false, false, false, false, true, false, false, false, false, false, false] [false, false, true, false, true, false, false, false]), v])) (.cons (.str _) (.cons ((hv.grow (s0.trans sK)).grow tN) .nil))
      replace sK := sK.trans tN
      clear tN
      refine ⟨_, rfl, e3, A.cEmptySequence, some d3, _, _, rfl, ie3.grow sK, dct_of (sK _ _ xd3), C.hEmptySequence, ?_⟩
      refine ⟨_, rfl, e3, d3, v, rfl, ie3.grow sK, sK _ _ xd3, (by show 2 ≤ sizeLine; decide), fun t3 nt3 => ?_⟩
      have tN := same_new (o := .tup [.str (allText [false, false, false, false, false, false, false, false, false, false, false, false, true, false, false, false, false, false] [false, false, false, false, true, false, false, false]), v]) nt3
      replace y1 := y1.grow tN
      replace y2 := y2.grow tN
      have y3 : Dx _ (.ref t3) (.tuple [.str (allText [false, false, false, false, false, false, false, false, false, false, false, false, true, false, false, false, false, false] [false, false, false, false, true, false, false, false]), dv]) := .tup (upd_same (o := .tup [.str (allText [false, false, false, false, false, false, false, false, false, false, false, false, true, false, false, false, false, false] [false, false, false, false, true, false, false, false]), v])) (.cons (.str _) (.cons ((hv.grow (s0.trans sK)).grow tN) .nil))
      replace sK := sK.trans tN
      clear tN
      refine ⟨(by show 3 ≤ sizeLine; decide), fun q nq => ?_⟩
      have qN := same_new (o := .lst [.ref t1, .ref t2, .ref t3]) nq
      exact kQ _ _ ⟨q, rfl, sK.trans qN, .lst upd_same (.cons (y1.grow qN) (.cons (y2.grow qN) (.cons (y3.grow qN) .nil)))⟩
    rintro _ Q1 ⟨p, rfl, sN, hp⟩
    replace ie1 := ie1.grow sN
    replace xd1 := sN _ _ xd1
    replace ie2 := ie2.grow sN
    replace xd2 := sN _ _ xd2
    replace ie3 := ie3.grow sN
    replace xd3 := sN _ _ xd3
    replace ie4 := ie4.grow sN
    replace xd4 := sN _ _ xd4
    replace ie5 := ie5.grow sN
    replace xd5 := sN _ _ xd5
    replace ie6 := ie6.grow sN
    replace xd6 := sN _ _ xd6
    replace ie7 := ie7.grow sN
    replace xd7 := sN _ _ xd7
    replace ie8 := ie8.grow sN
    replace xd8 := sN _ _ xd8
    replace s0 := s0.trans sN
    clear sN
    refine a_set (fun v H' => ∃ p, v = .ref p ∧ Same Q1 H' ∧ Dx H' (.ref p) (.list [.tuple [.str (allText [false, false, false, false, false, false, false, false, false, false, true, false, false, false, false, false, false, false] [true, true, false, false, false, false, false, false]), di], .tuple [.str (allText [false, false, false, false, false, false, false, false, false, false, false, true, false, false, false, false, false, false] [false, false, true, false, true, false, false, false]), dv], .tuple [.str (allText [false, false, false, false, false, false, false, false, false, false, false, false, true, false, false, false, false, false] [false, false, false, false, true, false, false, false]), dv], .tuple [.str (allText [false, false, false, false, false, false, false, false, false, false, false, false, false, true, false, false, false, false] [false, false, false, true, true, false, false, false]), dv], .tuple [.str (allText [false, false, false, false, false, false, false, false, false, false, false, false, false, false, true, false, false, false] [false, false, false, false, false, true, false, false]), dv], .tuple [.str (allText [false, false, false, false, false, false, false, false, false, false, false, false, false, false, false, true, false, false] [false, false, false, false, false, false, true, true]), dv]])) (fun Q' kQ => ?_) ?_
    · have sK := Same.refl Q1
      refine ⟨_, rfl, _, rfl, e4, A.cInvalidNumber, some d4, _, _, rfl, ie4.grow sK, dct_of (sK _ _ xd4), C.hInvalidNumber, ?_⟩
      refine ⟨_, rfl, e4, d4, v, rfl, ie4.grow sK, sK _ _ xd4, (by show 2 ≤ sizeLine; decide), fun t4 nt4 => ?_⟩
      have tN := same_new (o := .tup [.str (allText [false, false, false, false, false, false, false, false, false, false, false, false, false, true, false, false, false, false] [false, false, false, true, true, false, false, false]), v]) nt4
      have y4 : Dx _ (.ref t4) (.tuple [.str (allText [false, false, false, false, false, false, false, false, false, false, false, false, false, true, false, false, false, false] [false, false, false, true, true, false, false, false]), dv]) := .tup (upd_same (o := .tup [.str (allText [false, false, false, false, false, false, false, false, false, false, false, false, false, true, false, false, false, false] [false, false, false, true, true, false, false, false]), v])) (.cons (.str _) (.cons ((hv.grow (s0.trans sK)).grow tN) .nil))
      replace sK := sK.trans tN
      clear tN
      refine ⟨_, rfl, e5, A.cNothingToUndo, some d5, _, _, rfl, ie5.grow sK, dct_of (sK _ _ xd5), C.hNothingToUndo, ?_⟩
      refine ⟨_, rfl, e5, d5, v, rfl, ie5.grow sK, sK _ _ xd5, (by show 2 ≤ sizeLine; decide), fun t5 nt5 => ?_⟩
      have tN := same_new (o := .tup [.str (allText [false, false, false, false, false, false, false, false, false, false, false, false, false, false, true, false, false, false] [false, false, false, false, false, true, false, false]), v]) nt5
      replace y4 := y4.grow tN
      have y5 : Dx _ (.ref t5) (.tuple [.str (allText [false, false, false, false, false, false, false, false, false, false, false, false, false, false, true, false, false, false] [false, false, false, false, false, true, false, false]), dv]) := .tup (upd_same (o := .tup [.str (allText [false, false, false, false, false, false, false, false, false, false, false, false, false, false, true, false, false, false] [false, false, false, false, false, true, false, false]), v])) (.cons (.str _) (.cons ((hv.grow (s0.trans sK)).grow tN) .nil))
      replace sK := sK.trans tN
      clear tN
      refine ⟨_, rfl, e6, A.cTooMany, some d6, _, _, rfl, ie6.grow sK, dct_of (sK _ _ xd6), C.hTooMany, ?_⟩
      refine ⟨_, rfl, e6, d6, v, rfl, ie6.grow sK, sK _ _ xd6, (by show 2 ≤ sizeLine; decide), fun t6 nt6 => ?_⟩
      have tN := same_new (o := .tup [.str (allText [false, false, false, false, false, false, false, false, false, false, false, false, false, false, false, true, false, false] [false, false, false, false, false, false, true, true]), v]) nt6
      replace y4 := y4.grow tN
      replace y5 := y5.grow tN
      have y6 : Dx _ (.ref t6) (.tuple [.str (allText [false, false, false, false, false, false, false, false, false, false, false, false, false, false, false, true, false, false] [false, false, false, false, false, false, true, true]), dv]) := .tup (upd_same (o := .tup [.str (allText [false, false, false, false, false, false, false, false, false, false, false, false, false, false, false, true, false, false] [false, false, false, false, false, false, true, true]), v])) (.cons (.str _) (.cons ((hv.grow (s0.trans sK)).grow tN) .nil))
      replace sK := sK.trans tN
      clear tN
      refine ⟨(by show 3 ≤ sizeLine; decide), fun q nq => ?_⟩
      have qN := same_new (o := .lst [.ref t4, .ref t5, .ref t6]) nq
      obtain ⟨a, xs, ea, hxs, dxs⟩ := (hp.grow (sK.trans qN)).lstOf
      cases ea
      refine ⟨p, q, xs, _, rfl, rfl, hxs, upd_same, (by rw [dxs.len]; show 6 ≤ sizeLine; decide), fun r nr => ?_⟩
      have rN := same_new (o := .lst (xs ++ [.ref t4, .ref t5, .ref t6])) nr
      refine kQ _ _ ⟨r, rfl, ?_, .lst upd_same ((dxs.append (.cons (y4.grow qN) (.cons (y5.grow qN) (.cons (y6.grow qN) .nil)))).grow rN)⟩
      exact (sK.trans qN).trans rN
    clear hp
    rintro _ Q2 ⟨p, rfl, sN, hp⟩
    replace ie1 := ie1.grow sN
    replace xd1 := sN _ _ xd1
    replace ie2 := ie2.grow sN
    replace xd2 := sN _ _ xd2
    replace ie3 := ie3.grow sN
    replace xd3 := sN _ _ xd3
    replace ie4 := ie4.grow sN
    replace xd4 := sN _ _ xd4
    replace ie5 := ie5.grow sN
    replace xd5 := sN _ _ xd5
    replace ie6 := ie6.grow sN
    replace xd6 := sN _ _ xd6
    replace ie7 := ie7.grow sN
    replace xd7 := sN _ _ xd7
    replace ie8 := ie8.grow sN
    replace xd8 := sN _ _ xd8
    replace s0 := s0.trans sN
    clear sN
    refine a_ret (fun v H' => ∃ p, v = .ref p ∧ Same H H' ∧ Dx H' (.ref p) (keptD dv di)) (fun Q' kQ => ?_) (fun v H' e => by obtain ⟨p, rfl, s1, hp⟩ := e; exact k p H' s1 hp)
    · have sK := Same.refl Q2
      refine ⟨_, rfl, _, rfl, e7, A.cRefused, some d7, _, _, rfl, ie7.grow sK, dct_of (sK _ _ xd7), C.hRefused, ?_⟩
      refine ⟨_, rfl, e7, d7, v, rfl, ie7.grow sK, sK _ _ xd7, (by show 2 ≤ sizeLine; decide), fun t7 nt7 => ?_⟩
      have tN := same_new (o := .tup [.str (allText [false, false, false, false, false, false, false, false, false, false, false, false, false, false, false, false, true, false] [false, false, false, false, false, false, false, true]), v]) nt7
      have y7 : Dx _ (.ref t7) (.tuple [.str (allText [false, false, false, false, false, false, false, false, false, false, false, false, false, false, false, false, true, false] [false, false, false, false, false, false, false, true]), dv]) := .tup (upd_same (o := .tup [.str (allText [false, false, false, false, false, false, false, false, false, false, false, false, false, false, false, false, true, false] [false, false, false, false, false, false, false, true]), v])) (.cons (.str _) (.cons ((hv.grow (s0.trans sK)).grow tN) .nil))
      replace sK := sK.trans tN
      clear tN
      refine ⟨_, rfl, e8, A.cBroken, some d8, _, _, rfl, ie8.grow sK, dct_of (sK _ _ xd8), C.hBroken, ?_⟩
      refine ⟨_, rfl, e8, d8, v, rfl, ie8.grow sK, sK _ _ xd8, (by show 2 ≤ sizeLine; decide), fun t8 nt8 => ?_⟩
      have tN := same_new (o := .tup [.str (allText [false, false, false, false, false, false, false, false, false, false, false, false, false, false, false, false, false, true] [false, false, false, false, false, false, false, true]), v]) nt8
      replace y7 := y7.grow tN
      have y8 : Dx _ (.ref t8) (.tuple [.str (allText [false, false, false, false, false, false, false, false, false, false, false, false, false, false, false, false, false, true] [false, false, false, false, false, false, false, true]), dv]) := .tup (upd_same (o := .tup [.str (allText [false, false, false, false, false, false, false, false, false, false, false, false, false, false, false, false, false, true] [false, false, false, false, false, false, false, true]), v])) (.cons (.str _) (.cons ((hv.grow (s0.trans sK)).grow tN) .nil))
      replace sK := sK.trans tN
      clear tN
      refine ⟨(by show 2 ≤ sizeLine; decide), fun q nq => ?_⟩
      have qN := same_new (o := .lst [.ref t7, .ref t8]) nq
      obtain ⟨a, xs, ea, hxs, dxs⟩ := (hp.grow (sK.trans qN)).lstOf
      cases ea
      refine ⟨p, q, xs, _, rfl, rfl, hxs, upd_same, (by rw [dxs.len]; show 8 ≤ sizeLine; decide), fun r nr => ?_⟩
      have rN := same_new (o := .lst (xs ++ [.ref t7, .ref t8])) nr
      refine kQ _ _ ⟨r, rfl, ?_, .lst upd_same ((dxs.append (.cons (y7.grow qN) (.cons (y8.grow qN) .nil))).grow rN)⟩
      exact ((s0.trans sK).trans qN).trans rN
end

end G

set_option Elab.async false
set_option linter.all false
set_option maxRecDepth 100000
set_option maxHeartbeats 4000000
namespace G
open PySem PySem.Spec PyProof.Rows L2
structure CatchTxt (K : PySem.W.Frag) (mg : Str → Option Value) (A : ClsA) : Prop where
  gS : mg "SpanError" = some (.ref A.cSpanError)
  gB : mg "Broken" = some (.ref A.cBroken)
  gE : mg "EmptySequence" = some (.ref A.cEmptySequence)
  ps : PySem.W.exmOne K (.ref A.cInvalidPlace) (.ref A.cSpanError) = some true
  bs : PySem.W.exmOne K (.ref A.cBroken) (.ref A.cSpanError) = some false
  bb : PySem.W.exmOne K (.ref A.cBroken) (.ref A.cBroken) = some true
  es : PySem.W.exmOne K (.ref A.cEmptySequence) (.ref A.cSpanError) = some false
  eb : PySem.W.exmOne K (.ref A.cEmptySequence) (.ref A.cBroken) = some false
  ee : PySem.W.exmOne K (.ref A.cEmptySequence) (.ref A.cEmptySequence) = some true
section
variable {X : Cx} {A : ClsA} {k j i : Nat} {ps : List Str} {y : Str} {p py pos : Pos} {a : Addr} {oe : Obj} {cls : Value} {d : Option Addr} {pn : List (Addr × Obj)}
theorem pe_ownE (c : CalE X.prog X.w X.K X.mg X.base k "_law_own" ps (spOwnE X.K A)) (hz : Zc cls d oe) (hf : ∃ vs, oe.data = .fields vs) (hr : Room j X.A) (hk : k ≤ j) (hg : Gl X "_law_own") (hN : X.N[i]? = some y) (hv : Vis X.env.scope y)
    (hd : (y == ("__debug__" : Str)) = false := by decide) (hcd : (y == ("__classdict__" : Str)) = false := by decide) :
    PE (X.suite a ((a, oe) :: pn)) (.Call (.Name "_law_own" p) [.Name y py] [] pos) (fun σ H Q => ∃ (D : Addr) (bs cs : List Bool), σ[i]? = some (some (.ref a)) ∧ cls = .ref D ∧ d = none ∧ Has X.K A D bs cs ∧ Q (.str (ownText bs)) H) := by
  refine ⟨fun pins s σ H Q I h => ?_⟩
  obtain ⟨D, bs, cs, h1, rfl, rfl, h2, q⟩ := h
  exact (pe_ke c hr hk hg (pa_cons (pe_var (X := X.suite a ((a, oe) :: pn)) (pos := py) hN hv hd hcd) pa_nil)).run pins s σ H Q I ⟨_, h1, D, bs, cs, rfl, hz, hf, h2, q⟩
end
def caughtS (d : PyData) (way : Int) : Str := if way = 0 then ("base " : Str) ++ ownText [false, false, false, false, false, true, false, false, false, false, false, false, false, false, false, false, false, false] else if way = 1 then ("row " : Str) ++ d.shown else ("empty " : Str) ++ d.shown
structure ValOk (d : PyData) : Prop where
  sh : ShwD d
  len : 10 + d.shown.length ≤ sizeLine
def spCaught : Sp := fun vs H Q _ => ∃ (v : V) (d : PyData) (way : Int), vs = [v, .int way] ∧ Dx H v d ∧ ValOk d ∧ (way = 0 ∨ way = 1 ∨ way = 2) ∧ ∀ H', Same H H' → Q (.str (caughtS d way)) H'
section
variable {P : Program} {w : World} {K : PySem.W.Frag} {mg : Str → Option Value} {base : Heap} {A : ClsA} {fParseError fUnknownName fEmptySequence fInvalidNumber fNothingToUndo fTooMany fRefused fBroken : Addr}
theorem dec_int' (i j : Int) : decide (V.int i = V.int j) = decide (i = j) := decide_eq_decide.mpr ⟨fun e => by injection e, fun e => by rw [e]⟩
theorem c_caught (T : Txt K mg A) (C : Cls K A) (M : CatchTxt K mg A) (hS : ∃ o, base.get? sysModules = some o) (X_InvalidPlace : ErrAt K mg "InvalidPlace" A.cInvalidPlace veL "ValueError.__new__") (O_Broken : OwnBroken.Txt K mg A.cBroken fBroken) (O_EmptySequence : OwnEmptySequence.Txt K mg A.cEmptySequence fEmptySequence)
    (C_own : CalE P w K mg base 1 "_law_own" ["_law_error"] (spOwnE K A)) (D0 : DefAt K mg "_law_caught" s__law_caught ["_law_value", "_law_way"]) : CalG P w K mg base 3 "_law_caught" ["_law_value", "_law_way"] spCaught := by
  refine calOk D0 sc__law_caught (fun xs H Q E h => ?_) (fun f cdv A' out s H xs Q E hgd hr h => ?_)
  · obtain ⟨v, d, way, rfl, _⟩ := h
    rfl
  · obtain ⟨v, d, way, rfl, hv, hw, hway, k⟩ := h
    have nd := sc__law_caught.nd
    have hu := hr.units
    refine ⟨_, pss_one (ps_mix (X := (cxOf CX0 P w K mg base N__law_caught "_law_caught" (defScope s__law_caught) f cdv A' out s H E).nox)
      rfl rfl LamX.takes0 (fun W pn xe tk _ =>
        pss_cons (ps_if (pt_cmpR op_eq (pv 1) pe_int (nomark _)) (pss_one (ps_raise rfl tk (pmk_own PySem.F.excBase_ValueError X_InvalidPlace.exc X_InvalidPlace.at_ X_InvalidPlace.keep (raises_own X_InvalidPlace.base X_InvalidPlace.ty) rfl))) pss_nil)
        (pss_cons (ps_if (pt_cmpR op_eq (pv 1) pe_int (nomark _)) (pss_one (ps_raise rfl tk (OwnBroken.pmk O_Broken hr rfl (pa_cons (pv 0) pa_nil)))) pss_nil)
        (pss_one (ps_raise rfl tk (OwnEmptySequence.pmk O_EmptySequence hr rfl (pa_cons (pv 0) pa_nil))))))
      (.named (i := 2) ⟨rfl, by decide, .inl M.gS⟩ nd rfl rfl (fun a oe cls d pn hz hf nb => pss_one (ps_ret (pe_op op_add_str pe_str (pe_ownE C_own hz hf hr (by decide) rfl (i := 2) rfl (.inl rfl)))))
      (.named (i := 2) ⟨rfl, by decide, .inl M.gB⟩ nd rfl rfl (fun a oe cls d pn hz hf nb => pss_one (ps_ret (pe_op op_add_str pe_str (pe_callB (show CallR _ (.builtin "repr") rReprD from call_reprD hS (by exact hgd) (by exact hu)) (by rfl) T.repr (by decide +kernel) (pa_cons (OwnBroken.pe_fld O_Broken hz hf (pv 2)) pa_nil)))))
      (.named (i := 2) ⟨rfl, by decide, .inl M.gE⟩ nd rfl rfl (fun a oe cls d pn hz hf nb => pss_one (ps_ret (pe_op op_add_str pe_str (pe_callB (show CallR _ (.builtin "repr") rReprD from call_reprD hS (by exact hgd) (by exact hu)) (by rfl) T.repr (by decide +kernel) (pa_cons (OwnEmptySequence.pe_fld O_EmptySequence hz hf (pv 2)) pa_nil))))) .nil)))), ?_⟩
    refine a_if (fun b H' => b = decide (way = 0) ∧ H = H') (fun Q' kQ => ?_) (fun H' h => ?_) (fun H' h => ?_)
    · exact ⟨_, rfl, rfl, _, rfl, kQ _ _ ⟨dec_int' way 0, rfl⟩⟩
    · obtain ⟨h0, rfl⟩ := h
      have e0 : way = 0 := of_decide_eq_true h0.symm
      refine ⟨true, M.ps, fun _ a na len => ?_, fun z => Bool.noConfusion z⟩
      refine ⟨A.cInvalidPlace, _, _, by rw [List.getElem?_set_self len], rfl, rfl, C.hInvalidPlace, _, _, rfl, rfl, (by decide +kernel), ?_⟩
      have k' := k _ (Same.refl _)
      rw [show caughtS d way = ("base " : Str) ++ ownText [false, false, false, false, false, true, false, false, false, false, false, false, false, false, false, false, false, false] from if_pos e0] at k'
      exact k'
    · obtain ⟨h0, rfl⟩ := h
      have e0 : way ≠ 0 := of_decide_eq_false h0.symm
      refine go_nx ?_
      refine a_if (fun b H' => b = decide (way = 1) ∧ H = H') (fun Q' kQ => ?_) (fun H' h => ?_) (fun H' h => ?_)
      · exact ⟨_, rfl, rfl, _, rfl, kQ _ _ ⟨dec_int' way 1, rfl⟩⟩
      · obtain ⟨h1, rfl⟩ := h
        have e1 : way = 1 := of_decide_eq_true h1.symm
        refine ⟨_, rfl, v, rfl, fun dd nd => ?_⟩
        refine ⟨false, M.bs, (fun z => Bool.noConfusion z), fun _ => ⟨true, M.bb, fun _ a na len => ?_, fun z => Bool.noConfusion z⟩⟩
        refine ⟨.ref a, by rw [List.getElem?_set_self len], rfl, rfl, dd, v, rfl, upd_same, v, d, rfl, hv.grow (same_new nd), hw.sh, _, _, rfl, rfl, Nat.le_trans (Nat.add_le_add_right (by decide +kernel) _) hw.len, ?_⟩
        have k' := k _ (same_new (o := .xd [(("row" : Str), v)]) nd)
        rw [show caughtS d way = ("row " : Str) ++ d.shown from (if_neg e0).trans (if_pos e1)] at k'
        exact k'
      · obtain ⟨h1, rfl⟩ := h
        have e1 : way ≠ 1 := of_decide_eq_false h1.symm
        refine ⟨_, rfl, v, rfl, fun dd nd => ?_⟩
        refine ⟨false, M.es, (fun z => Bool.noConfusion z), fun _ => ⟨false, M.eb, (fun z => Bool.noConfusion z), fun _ => ⟨true, M.ee, fun _ a na len => ?_, fun z => Bool.noConfusion z⟩⟩⟩
        refine ⟨.ref a, by rw [List.getElem?_set_self len], rfl, rfl, dd, v, rfl, upd_same, v, d, rfl, hv.grow (same_new nd), hw.sh, _, _, rfl, rfl, Nat.le_trans (Nat.add_le_add_right (by decide +kernel) _) hw.len, ?_⟩
        have k' := k _ (same_new (o := .xd [(("tried" : Str), v)]) nd)
        rw [show caughtS d way = ("empty " : Str) ++ d.shown from (if_neg e0).trans (if_neg e1)] at k'
        exact k'
end

def LETS : List Str := ["f", "r", "d", "p", "b", "c", "s", "l", "q", "o"]
def DUE1 : List Str := LETS.map (fun x => x ++ (" span value " : Str)) ++ [(" span value " : Str)]
theorem eq_msgs : MSGS = DUE1 := by decide +kernel
theorem lets_short : ∀ z ∈ LETS, Str.length z ≤ 1 := by decide +kernel
theorem due1_ok : ∀ x ∈ DUE1, PyData.strOk x = true := by decide +kernel
def dueD (dv di : PyData) : PyData := .list [.tuple [.str "x span value ", di], .tuple [.str "U key lookup ", dv], .tuple [.str "E lookup ", dv], .tuple [.str "N index lookup ", dv], .tuple [.str "Z runtime ", dv], .tuple [.str "M overflow arithmetic ", dv], .tuple [.str "R arithmetic ", dv], .tuple [.str "B arithmetic ", dv]]
theorem kt0 : (allText [false, false, false, false, false, false, false, false, false, false, true, false, false, false, false, false, false, false] [true, true, false, false, false, false, false, false]) = "x span value " := by decide +kernel
theorem kt1 : (allText [false, false, false, false, false, false, false, false, false, false, false, true, false, false, false, false, false, false] [false, false, true, false, true, false, false, false]) = "U key lookup " := by decide +kernel
theorem kt2 : (allText [false, false, false, false, false, false, false, false, false, false, false, false, true, false, false, false, false, false] [false, false, false, false, true, false, false, false]) = "E lookup " := by decide +kernel
theorem kt3 : (allText [false, false, false, false, false, false, false, false, false, false, false, false, false, true, false, false, false, false] [false, false, false, true, true, false, false, false]) = "N index lookup " := by decide +kernel
theorem kt4 : (allText [false, false, false, false, false, false, false, false, false, false, false, false, false, false, true, false, false, false] [false, false, false, false, false, true, false, false]) = "Z runtime " := by decide +kernel
theorem kt5 : (allText [false, false, false, false, false, false, false, false, false, false, false, false, false, false, false, true, false, false] [false, false, false, false, false, false, true, true]) = "M overflow arithmetic " := by decide +kernel
theorem kt6 : (allText [false, false, false, false, false, false, false, false, false, false, false, false, false, false, false, false, true, false] [false, false, false, false, false, false, false, true]) = "R arithmetic " := by decide +kernel
theorem kt7 : (allText [false, false, false, false, false, false, false, false, false, false, false, false, false, false, false, false, false, true] [false, false, false, false, false, false, false, true]) = "B arithmetic " := by decide +kernel
theorem kept_due (dv di : PyData) : keptD dv di = dueD dv di := by
  unfold keptD dueD
  rw [kt0, kt1, kt2, kt3, kt4, kt5, kt6, kt7]
structure RightOk (dv di : PyData) : Prop where
  v : ValOk dv
  k : ShwD (dueD dv di)
  r : PyData.strOk (("row " : Str) ++ dv.shown) = true
  e : PyData.strOk (("empty " : Str) ++ dv.shown) = true
def spRight : Sp := fun vs H Q _ => ∃ (v i : V) (dv di : PyData), vs = [v, i] ∧ Dx H v dv ∧ Dx H i di ∧ RightOk dv di ∧ ∀ H', Same H H' → Q (.bl true) H'
section
variable {P : Program} {w : World} {K : PySem.W.Frag} {mg : Str → Option Value} {base : Heap} {A : ClsA}
theorem go_nm {t : TS} {D : Ends} {i : Nat} {v : V} {σ : L2.St} {H : Hp} {r : VK} {b c : L2.St → Hp → Prop} (h : t D (σ.set i (some v)) H) : gName i v σ H (Ends.nx ⟨t D, r, b, c⟩) := h
theorem same_hide {H : Hp} {q : Addr} {o : HO} (n : H q = none) : Same H (hide q (upd H q o)) := fun b u e => by
  have nb : b ≠ q := ne_of_none e n
  rw [hide_ne nb, upd_ne nb]
  exact e
theorem same_hid {H H' : Hp} {q : Addr} (s : Same H H') (n : H q = none) : Same H (hide q H') := fun b u e => by
  have nb : b ≠ q := ne_of_none e n
  rw [hide_ne nb]
  exact s b u e
theorem hid_same {H H' : Hp} {q : Addr} (s : Same H H') : Same (hide q H) (hide q H') := fun b u e => by
  by_cases nb : b = q
  · rw [nb, hide_at] at e
    cases e
  · rw [hide_ne nb] at e ⊢
    exact s b u e
theorem hide_upd {H : Hp} {q : Addr} {o : HO} : hide q (upd H q o) = hide q H := by
  funext b
  by_cases nb : b = q
  · rw [nb, hide_at, hide_at]
  · rw [hide_ne nb, hide_ne nb, upd_ne nb]
theorem a_expr {te : TE} {rest : TS} {D : Ends} {σ : L2.St} {H : Hp} (R : Hp → Prop) (h : ∀ Q' : VK, (∀ v H', R H' → Q' v H') → te σ H Q') (k : ∀ H', R H' → rest D σ H') : tSeq (tDrop te) rest D σ H := h _ fun v H' r => k H' r
theorem c_right (T : Txt K mg A) (hS : ∃ o, base.get? sysModules = some o) (C__law_messages : CalG P w K mg base 3 "_law_messages" [] spMsgs) (C__law_kept : CalG P w K mg base 3 "_law_kept" ["_law_value", "_law_index"] spKept)
    (C__law_caught : CalG P w K mg base 3 "_law_caught" ["_law_value", "_law_way"] spCaught) (D0 : DefAt K mg "_law_right" s__law_right ["_law_value", "_law_index"]) : CalG P w K mg base 4 "_law_right" ["_law_value", "_law_index"] spRight := by
  refine calOk D0 sc__law_right (fun xs H Q E h => ?_) (fun f cdv A' out s H xs Q E hgd hr h => ?_)
  · obtain ⟨v, i, dv, di, rfl, _⟩ := h
    rfl
  · obtain ⟨v, i, dv, di, rfl, hv, hi, ok, k⟩ := h
    have nd := sc__law_right.nd
    refine ⟨_, (pss_cons (ps_set (i := 2) nd rfl (.inl rfl) (pe_lst (pa_cons pe_str (pa_cons pe_str (pa_cons pe_str (pa_cons pe_str (pa_cons pe_str (pa_cons pe_str (pa_cons pe_str (pa_cons pe_str (pa_cons pe_str (pa_cons pe_str pa_nil))))))))))))
      (pss_cons (ps_if (pt_cmpR (op_neD hr.units) (pe_k0 C__law_messages hgd hr (by decide) rfl) (pe_op op_cat (pe_lc (own := [("_law_letter", 6)]) (g := gName 6) (by rfl) nd (pi_list (pv 2)) (blkOk_by (own := [("_law_letter", 6)]) (N := N__law_right) (sc := defScope s__law_right) (by decide +kernel)) (fun _ _ _ _ _ => pg_name (i := 6) nd rfl (.inl rfl)) (fun _ _ _ _ _ => pts_nil) (fun _ _ _ _ _ => pe_op op_add_str (pv 6) pe_str)) (pe_lst (pa_cons pe_str pa_nil))) (nomark _)) (pss_one (ps_ret pe_bl)) pss_nil)
      (pss_cons (ps_set (i := 3) nd rfl (.inl rfl) (pe_lst (pa_cons (pe_tup (pa_cons pe_str (pa_cons (pv 1) pa_nil))) (pa_cons (pe_tup (pa_cons pe_str (pa_cons (pv 0) pa_nil))) (pa_cons (pe_tup (pa_cons pe_str (pa_cons (pv 0) pa_nil))) (pa_cons (pe_tup (pa_cons pe_str (pa_cons (pv 0) pa_nil))) pa_nil))))))
      (pss_cons (ps_set (i := 3) nd rfl (.inl rfl) (pe_op op_cat (pv 3) (pe_lst (pa_cons (pe_tup (pa_cons pe_str (pa_cons (pv 0) pa_nil))) (pa_cons (pe_tup (pa_cons pe_str (pa_cons (pv 0) pa_nil))) (pa_cons (pe_tup (pa_cons pe_str (pa_cons (pv 0) pa_nil))) pa_nil))))))
      (pss_cons (ps_expr (pe_bm PySem.F.plainAttrs_list PySem.F.slot_list_append PySem.F.type_list_append mt_append (pv 3) (pa_cons (pe_tup (pa_cons pe_str (pa_cons (pv 0) pa_nil))) pa_nil)))
      (pss_cons (ps_if (pt_cmpR op_ne (pe_callB (call_reprD hS hgd hr.units) (by rfl) T.repr (by decide +kernel) (pa_cons (pe_k C__law_kept hgd hr (by decide) rfl (pa_cons (pv 0) (pa_cons (pv 1) pa_nil))) pa_nil)) (pe_callB (call_reprD hS hgd hr.units) (by rfl) T.repr (by decide +kernel) (pa_cons (pv 3) pa_nil)) (nomark _)) (pss_one (ps_ret pe_bl)) pss_nil)
      (pss_cons (ps_setLc (i := 4) (own := [("_law_way", 5)]) (g := gName 5) (by rfl) nd rfl rfl (sw_true rfl rfl rfl (by decide +kernel)) (pi_range1 rfl T.range (pa_cons pe_int pa_nil)) (blkOk_by (own := [("_law_way", 5)]) (N := N__law_right) (sc := defScope s__law_right) (by decide +kernel)) (fun _ _ _ _ _ => pg_name (i := 5) nd rfl (.inl rfl)) (fun _ _ _ _ _ => pts_nil) (fun _ _ _ _ _ => pe_k C__law_caught hgd hr (by decide) rfl (pa_cons (pv 0) (pa_cons (pv 5) pa_nil))))
      (pss_one (ps_ret (pe_cmpR (op_eqD hr.units) (pv 4) (pe_lst (pa_cons pe_str (pa_cons (pe_op op_add_str pe_str (pe_callB (call_reprD hS hgd hr.units) (by rfl) T.repr (by decide +kernel) (pa_cons (pv 0) pa_nil))) (pa_cons (pe_op op_add_str pe_str (pe_callB (call_reprD hS hgd hr.units) (by rfl) T.repr (by decide +kernel) (pa_cons (pv 0) pa_nil))) pa_nil)))) (nomark _))))))))))), ?_⟩
    -- letters
    refine a_set (fun v H' => ∃ p, v = .ref p ∧ Same H H' ∧ H' p = some (.lst (LETS.map V.str))) (fun Q' kQ => ?_) ?_
    · exact ⟨(by show 10 ≤ sizeLine; decide), fun p np => kQ _ _ ⟨p, rfl, same_new np, upd_same⟩⟩
    rintro _ H1 ⟨p1, rfl, s1, h1⟩
    -- messages
    refine a_if (fun b H' => b = false ∧ Same H1 H') (fun Q' kQ => ?_) (fun H' h => nomatch h.1) (fun H2 h2 => ?_)
    · refine ⟨rfl, fun pm M1 sm hm => ?_⟩
      have h1' := sm _ _ h1
      refine ⟨_, rfl, p1, rfl, ⟨_, SqL.of h1'⟩, fun Dl nD => ?_⟩
      refine lc_list (K := K) (a := p1) (xs := LETS.map V.str) (fun i H' => Same M1 H' ∧ H' Dl = some (.lst (((LETS.take i).map (fun x => x ++ (" span value " : Str))).map V.str))) ?_ ?_ ?_ ?_
      · exact ⟨same_new nD, upd_same⟩
      · rintro i H' _ ⟨s2, _⟩
        exact SqL.of (s2 _ _ h1')
      · rintro i y H' hi ⟨s2, hD⟩
        rw [List.getElem?_map] at hi
        obtain ⟨z, hz, rfl⟩ := Option.map_eq_some_iff.mp hi
        have et : LETS.take (i + 1) = LETS.take i ++ [z] := by rw [List.take_add_one, hz]; rfl
        have hl := lets_short z (List.mem_of_getElem? hz)
        have hi10 : i < 10 := (List.getElem?_eq_some_iff.mp hz).1
        refine ⟨rfl, ?_⟩
        refine ⟨_, rfl, _, _, rfl, rfl, Nat.le_trans (Nat.add_le_add hl (Nat.le_refl _)) (by decide +kernel), _, hD, ?_, Same.put s2 nD, ?_⟩
        · rw [List.length_map, List.length_map, List.length_take]
          exact small1000 (by omega)
        · rw [upd_same, et, List.map_append, List.map_append]
          rfl
      · rintro H' ⟨s2, hD⟩
        rw [List.length_map, List.take_length] at hD
        refine ⟨(by show 1 ≤ sizeLine; decide), fun q nq => ?_⟩
        have s3 := same_new (o := .lst [.str " span value "]) nq
        refine ⟨Dl, q, _, _, rfl, rfl, s3 _ _ hD, upd_same, ?_, fun r nr => ?_⟩
        · show ((List.map V.str (List.map _ LETS))).length + 1 ≤ sizeLine
          rw [List.length_map, List.length_map]
          show 10 + 1 ≤ sizeLine
          decide
        · have s4 := (s2.trans s3).trans (same_new (o := .lst (List.map V.str (List.map (fun x => x ++ (" span value " : Str)) LETS) ++ [V.str " span value "])) nr)
          have hr' : ∀ (HH : Hp), HH r = some (.lst (List.map V.str (List.map (fun x => x ++ (" span value " : Str)) LETS) ++ [V.str " span value "])) → HH r = some (.lst (DUE1.map V.str)) := fun HH z => by
            rw [z]
            unfold DUE1
            rw [List.map_append]
            rfl
          refine ⟨_, _, strsX MSGS (s4 _ _ hm) K, strsX DUE1 (hr' _ upd_same) K, shaped_strs _ (by rw [eq_msgs]; exact due1_ok), shaped_strs _ due1_ok, false, congrArg V.bl (by rw [eq_msgs, eqv_strs]; rfl), kQ _ _ ⟨rfl, sm.trans s4⟩⟩
    have s2 := s1.trans h2.2
    refine go_nx ?_
    -- due
    refine a_set (fun v' H' => ∃ q, v' = .ref q ∧ Same H H' ∧ Dx H' (.ref q) (.list [.tuple [.str "x span value ", di], .tuple [.str "U key lookup ", dv], .tuple [.str "E lookup ", dv], .tuple [.str "N index lookup ", dv]])) (fun Q' kQ => ?_) ?_
    · have sK := s2
      refine ⟨_, rfl, (by show 2 ≤ sizeLine; decide), fun t0 n0 => ?_⟩
      have tN := same_new (o := .tup [.str "x span value ", i]) n0
      replace sK := sK.trans tN
      have y0 : Dx _ (.ref t0) (.tuple [.str "x span value ", di]) := .tup (upd_same (o := .tup [.str "x span value ", i])) (.cons (.str _) (.cons (hi.grow sK) .nil))
      clear tN
      refine ⟨_, rfl, (by show 2 ≤ sizeLine; decide), fun t1 n1 => ?_⟩
      have tN := same_new (o := .tup [.str "U key lookup ", v]) n1
      replace y0 := y0.grow tN
      replace sK := sK.trans tN
      have y1 : Dx _ (.ref t1) (.tuple [.str "U key lookup ", dv]) := .tup (upd_same (o := .tup [.str "U key lookup ", v])) (.cons (.str _) (.cons (hv.grow sK) .nil))
      clear tN
      refine ⟨_, rfl, (by show 2 ≤ sizeLine; decide), fun t2 n2 => ?_⟩
      have tN := same_new (o := .tup [.str "E lookup ", v]) n2
      replace y0 := y0.grow tN
      replace y1 := y1.grow tN
      replace sK := sK.trans tN
      have y2 : Dx _ (.ref t2) (.tuple [.str "E lookup ", dv]) := .tup (upd_same (o := .tup [.str "E lookup ", v])) (.cons (.str _) (.cons (hv.grow sK) .nil))
      clear tN
      refine ⟨_, rfl, (by show 2 ≤ sizeLine; decide), fun t3 n3 => ?_⟩
      have tN := same_new (o := .tup [.str "N index lookup ", v]) n3
      replace y0 := y0.grow tN
      replace y1 := y1.grow tN
      replace y2 := y2.grow tN
      replace sK := sK.trans tN
      have y3 : Dx _ (.ref t3) (.tuple [.str "N index lookup ", dv]) := .tup (upd_same (o := .tup [.str "N index lookup ", v])) (.cons (.str _) (.cons (hv.grow sK) .nil))
      clear tN
      refine ⟨(by show 4 ≤ sizeLine; decide), fun q nq => ?_⟩
      have qN := same_new (o := .lst [.ref t0, .ref t1, .ref t2, .ref t3]) nq
      exact kQ _ _ ⟨q, rfl, sK.trans qN, .lst upd_same (.cons (y0.grow qN) (.cons (y1.grow qN) (.cons (y2.grow qN) (.cons (y3.grow qN) .nil))))⟩
    rintro _ H3 ⟨p3, rfl, s3, hp3⟩
    refine a_set (fun v' H' => ∃ q xs, v' = .ref q ∧ Same H H' ∧ H q = none ∧ H' q = some (.lst xs) ∧ DxAll (hide q H') xs [.tuple [.str "x span value ", di], .tuple [.str "U key lookup ", dv], .tuple [.str "E lookup ", dv], .tuple [.str "N index lookup ", dv], .tuple [.str "Z runtime ", dv], .tuple [.str "M overflow arithmetic ", dv], .tuple [.str "R arithmetic ", dv]]) (fun Q' kQ => ?_) ?_
    · have sK := s3
      have sL := Same.refl H3
      refine ⟨_, rfl, _, rfl, (by show 2 ≤ sizeLine; decide), fun t4 n4 => ?_⟩
      have tN := same_new (o := .tup [.str "Z runtime ", v]) n4
      replace sK := sK.trans tN
      replace sL := sL.trans tN
      have y4 : Dx _ (.ref t4) (.tuple [.str "Z runtime ", dv]) := .tup (upd_same (o := .tup [.str "Z runtime ", v])) (.cons (.str _) (.cons (hv.grow sK) .nil))
      clear tN
      refine ⟨_, rfl, (by show 2 ≤ sizeLine; decide), fun t5 n5 => ?_⟩
      have tN := same_new (o := .tup [.str "M overflow arithmetic ", v]) n5
      replace y4 := y4.grow tN
      replace sK := sK.trans tN
      replace sL := sL.trans tN
      have y5 : Dx _ (.ref t5) (.tuple [.str "M overflow arithmetic ", dv]) := .tup (upd_same (o := .tup [.str "M overflow arithmetic ", v])) (.cons (.str _) (.cons (hv.grow sK) .nil))
      clear tN
      refine ⟨_, rfl, (by show 2 ≤ sizeLine; decide), fun t6 n6 => ?_⟩
      have tN := same_new (o := .tup [.str "R arithmetic ", v]) n6
      replace y4 := y4.grow tN
      replace y5 := y5.grow tN
      replace sK := sK.trans tN
      replace sL := sL.trans tN
      have y6 : Dx _ (.ref t6) (.tuple [.str "R arithmetic ", dv]) := .tup (upd_same (o := .tup [.str "R arithmetic ", v])) (.cons (.str _) (.cons (hv.grow sK) .nil))
      clear tN
      refine ⟨(by show 3 ≤ sizeLine; decide), fun q nq => ?_⟩
      have qN := same_new (o := .lst [.ref t4, .ref t5, .ref t6]) nq
      obtain ⟨a, xs, ea, hxs, dxs⟩ := (hp3.grow (sL.trans qN)).lstOf
      cases ea
      refine ⟨p3, q, xs, _, rfl, rfl, hxs, upd_same, (by rw [dxs.len]; show 7 ≤ sizeLine; decide), fun r nr => ?_⟩
      have all := dxs.append (.cons (y4.grow qN) (.cons (y5.grow qN) (.cons (y6.grow qN) .nil)))
      exact kQ _ _ ⟨r, _, rfl, (sK.trans qN).trans (same_new nr), (sK.trans qN).free nr, upd_same, all.grow (same_hide nr)⟩
    rintro _ H4 ⟨q, xs, rfl, s4, nq, hq, dxs⟩
    refine a_expr (fun H' => Same H H' ∧ Dx H' (.ref q) (dueD dv di)) (fun Q' kQ => ?_) (fun H5 h5 => ?_)
    · refine ⟨_, rfl, .inl ⟨rfl, _, SqL.of hq⟩, ?_⟩
      refine ⟨_, rfl, (by show 2 ≤ sizeLine; decide), fun t nt => ?_⟩
      have tN := same_new (o := .tup [.str "B arithmetic ", v]) nt
      have ne : t ≠ q := fun e => by rw [e, hq] at nt; cases nt
      refine ⟨q, xs, .ref t, rfl, rfl, tN _ _ hq, (by rw [dxs.len]; show 7 < sizeLine; decide), kQ _ _ ⟨Same.put (s4.trans tN) nq, ?_⟩⟩
      have hT : Dx (hide q (upd H4 t (.tup [.str "B arithmetic ", v]))) (.ref t) (.tuple [.str "B arithmetic ", dv]) := .tup (by rw [hide_ne ne]; exact upd_same) (.cons (.str _) (.cons (hv.grow (same_hid (s4.trans tN) nq)) .nil))
      have all := (dxs.grow (hid_same tN)).append (.cons hT .nil)
      refine .lst upd_same (DxAll.grow hide_le (H := hide q _) ?_)
      rw [hide_upd]
      exact all
    obtain ⟨s5, hq5⟩ := h5
    -- repr
    refine a_if (fun b H' => b = false ∧ Same H5 H') (fun Q' kQ => ?_) (fun H' h => nomatch h.1) (fun H6 h6 => ?_)
    · refine ⟨_, rfl, _, rfl, v, i, dv, di, rfl, hv.grow s5, hi.grow s5, fun p M1 sm hp => ?_⟩
      refine ⟨.ref p, keptD dv di, rfl, hp, (by rw [kept_due]; exact ok.k), ?_⟩
      refine ⟨_, rfl, .ref q, dueD dv di, rfl, hq5.grow sm, ok.k, rfl, false, congrArg V.bl (by rw [kept_due]; simp), kQ _ _ ⟨rfl, sm⟩⟩
    have s6 := s5.trans h6.2
    refine go_nx ?_
    -- told
    refine ⟨3, rfl, (by decide), (by decide), fun Dl nD => ?_⟩
    refine lc_range (fun i H' => Same H6 H' ∧ H' Dl = some (.lst ((([caughtS dv 0, caughtS dv 1, caughtS dv 2] : List Str).take i).map V.str))) ?_ ?_ ?_
    · exact ⟨same_new nD, upd_same⟩
    · rintro i' H' hi' ⟨s7, hD⟩
      refine ⟨rfl, ?_⟩
      have hi3 : i' < 3 := hi'
      refine ⟨_, rfl, _, rfl, v, dv, _, rfl, hv.grow (s6.trans s7), ok.v, (by omega), fun H8 s8 => ?_⟩
      refine ⟨_, s8 _ _ hD, ?_, Same.put (s7.trans s8) nD, ?_⟩
      · rw [List.length_map, List.length_take]; exact small1000 (by omega)
      · rw [upd_same]
        match i', hi3 with
        | 0, _ => rfl
        | 1, _ => rfl
        | 2, _ => rfl
    · rintro H7 ⟨s7, hD⟩
      refine go_nm ?_
      refine a_ret (fun v H' => v = .bl true ∧ Same H7 H') (fun Q' kQ => ?_) (fun v H' e => by rw [e.1]; exact k H' ((s6.trans s7).trans e.2))
      have sv := s6.trans s7
      refine ⟨_, rfl, ?_⟩
      refine ⟨_, rfl, v, dv, rfl, hv.grow sv, ok.v.sh, _, _, rfl, rfl, Nat.le_trans (Nat.add_le_add_right (by decide +kernel) _) ok.v.len, ?_⟩
      refine ⟨_, rfl, v, dv, rfl, hv.grow sv, ok.v.sh, _, _, rfl, rfl, Nat.le_trans (Nat.add_le_add_right (by decide +kernel) _) ok.v.len, ?_⟩
      refine ⟨(by show 3 ≤ sizeLine; decide), fun r nr => ?_⟩
      have e0 : caughtS dv 0 = "base c" := by
        show ("base " : Str) ++ ownText _ = _
        decide +kernel
      have okT : ∀ x ∈ ([caughtS dv 0, caughtS dv 1, caughtS dv 2] : List Str), PyData.strOk x = true := fun x hx => by
        simp only [List.mem_cons, List.not_mem_nil, or_false] at hx
        rcases hx with e | e | e <;> rw [e]
        · rw [e0]; decide +kernel
        · exact ok.r
        · exact ok.e
      have hD2 := (same_new (o := .lst [.str "base c", .str (("row " : Str) ++ dv.shown), .str (("empty " : Str) ++ dv.shown)]) nr) _ _ hD
      refine ⟨_, _, strsX [caughtS dv 0, caughtS dv 1, caughtS dv 2] hD2 K, strsX [caughtS dv 0, caughtS dv 1, caughtS dv 2] (by rw [e0]; exact upd_same) K, shaped_strs _ okT, shaped_strs _ okT, kQ _ _ ⟨congrArg V.bl (eqv_strs _), same_new nr⟩⟩
end

end G

set_option Elab.async false
set_option linter.all false
set_option maxRecDepth 100000
set_option maxHeartbeats 4000000
namespace G
open PySem PySem.Spec PyProof.Rows L2
def VALS : List PyData := [.none, .bool true, .int 0, .str "7", .str "", .tuple [.tuple [.int 2, .int 1], .tuple [.int 1, .int 0]], .list [.int 7], .dict [(.int 7, .int 7)], .tuple [.tuple [], .tuple [.str "a", .int 1]], .tuple [.str "good", .str "popl"], .str "popr"]
theorem strOk_of (x : String) : PyData.strOk (Str.ofString x) = true := by
  rw [Str.ofString_eq_toList]
  show Array.all _ _ = true
  rw [← Array.all_toList, List.all_eq_true]
  intro c hc
  simp only [List.mem_map] at hc
  obtain ⟨ch, _, rfl⟩ := hc
  have v := ch.valid
  show decide (ch.toNat < 0x110000) = true
  rw [decide_eq_true_eq]
  rcases v with v | ⟨_, v⟩
  · exact Nat.lt_trans v (by decide)
  · exact v
theorem strOk_app {x y : Str} (h1 : PyData.strOk x = true) (h2 : PyData.strOk y = true) : PyData.strOk (x ++ y) = true := by
  unfold PyData.strOk at *
  show Array.all (x.cps ++ y.cps) _ = true
  rw [Array.all_append, h1, h2]
  rfl
structure VD (d : PyData) : Prop where
  sh : d.showable = true
  lf : d.leavesShort 1201 = true
  dp : d.depth ≤ 10
  bk : d.bulk ≤ 100
  so : PyData.strOk d.shown = true
theorem vd_int {r : Int} (h0 : 0 ≤ r) (h1 : r < 10 ^ 30) : VD (.int r) := by
  have hl : r.natAbs.log2 < 1200 := Nat.lt_of_lt_of_le (Nat.lt_of_le_of_lt (Nat.log2_le_self r.natAbs |> fun _ => (Nat.le_refl _)) (Nat.lt_succ_self _)) (by
    have hb : r.natAbs < 2 ^ 100 := by
      have e : (10 : Int) ^ 30 < 2 ^ 100 := by decide
      omega
    by_cases z : r.natAbs = 0
    · rw [z]; decide
    · have := (Nat.log2_lt z).mpr hb
      omega)
  obtain ⟨a1, a2, a3⟩ := nice_facts (.int r) (by simpa [nice] using hl)
  refine ⟨a2, a3, by simp [PyData.depth], by simp [PyData.bulk], ?_⟩
  rw [PyData.shown_int]
  exact strOk_of _
theorem vd_vals : ∀ d ∈ VALS, VD d := by
  intro d h
  unfold VALS at h
  simp only [List.mem_cons, List.not_mem_nil, or_false] at h
  rcases h with rfl | rfl | rfl | rfl | rfl | rfl | rfl | rfl | rfl | rfl | rfl <;> exact ⟨by decide +kernel, by decide +kernel, by decide +kernel, by decide +kernel, by decide +kernel⟩
theorem fits_of {d : PyData} (lf : d.leavesShort 1201 = true) (bk : d.bulk ≤ 10000) : d.shown.length + 10 ≤ sizeLine := by
  have q := PyData.shown_le_bulk 1201 (by decide) d lf
  have e2 : 16777216 ≤ sizeLine := by decide
  omega
theorem right_ok {dv di : PyData} (a : VD dv) (b : VD di) : RightOk dv di := by
  have fa := fits_of a.lf (Nat.le_trans a.bk (by decide))
  refine ⟨⟨⟨a.sh, Nat.le_trans a.dp (by decide), by omega⟩, by omega⟩, ⟨?_, ?_, ?_⟩, strOk_app (by decide +kernel) a.so, strOk_app (by decide +kernel) a.so⟩
  · simp [dueD, PyData.showable, PyData.showableAll, a.sh, b.sh]
  · have h1 := a.dp
    have h2 := b.dp
    simp only [dueD, PyData.depth, PyData.depthAll]
    omega
  · have lf : (dueD dv di).leavesShort 1201 = true := by
      simp only [dueD, PyData.leavesShort, PyData.leavesShortAll, a.lf, b.lf, Bool.and_true]
      decide +kernel
    have bk : (dueD dv di).bulk ≤ 10000 := by
      have h1 := a.bk
      have h2 := b.bk
      simp only [dueD, PyData.bulk, PyData.bulkAll]
      have e : ∀ x : Str, x ∈ ([("x span value " : Str), "U key lookup ", "E lookup ", "N index lookup ", "Z runtime ", "M overflow arithmetic ", "R arithmetic ", "B arithmetic "] : List Str) → x.cps.size ≤ 30 := by decide +kernel
      simp only [List.mem_cons, List.not_mem_nil, or_false, forall_eq_or_imp, forall_eq] at e
      omega
    have := fits_of lf bk
    omega
theorem newDK {T : List (Addr × Str)} {d p : Addr} {H H' : Hp} {kvs : List (Key × V)} {ps : List (PyData × PyData)} (m : MvT T d H H') (n : H' p = none) (a : DxKv (hide d H') (mergeK [] kvs) ps) :
    MvT T d H (upd (upd H' p (.dK [])) p (.dK (mergeK [] kvs))) ∧ Dx (hide d (upd (upd H' p (.dK [])) p (.dK (mergeK [] kvs)))) (.ref p) (.dict ps) ∧ ∀ {x : V} {dat : PyData}, Dx (hide d H') x dat → Dx (hide d (upd (upd H' p (.dK [])) p (.dK (mergeK [] kvs)))) x dat := by
  rw [upd_upd]
  exact ⟨m.new n, .dct (by rw [hide_ne (m.dice.ne n)]; exact upd_same) (DxKv.grow (fresh_same m.dice n) a), fun h => h.grow (fresh_same m.dice n)⟩
theorem sql_ext {K : PySem.W.Frag} {H H' : Hp} {a : Addr} {xs : List V} (e : LamX.ExtN H H') (h : SqL K H a xs) : SqL K H' a xs := by
  rcases h with (h | ⟨o, h⟩) | h
  · exact .inl (.inl (e _ _ h fun _ z => by cases z))
  · exact .inl (.inr ⟨o, e _ _ h fun _ z => by cases z⟩)
  · exact .inr h
theorem MvT.out {T : List (Addr × Str)} {d : Addr} {H H' : Hp} {o : HO} (n : H d = none) (m : MvT T d (upd H d o) H') : LamX.ExtN H H' := fun b u e k => by
  have nb : b ≠ d := ne_of_none e n
  have q := m.ext b u (by rw [hide_ne nb, upd_ne nb]; exact e) k
  rw [hide_ne nb] at q
  exact q
theorem hide2_upd {H : Hp} {p d : Addr} {o : HO} : hide p (hide d (upd H p o)) = hide p (hide d H) := by
  funext b
  by_cases h1 : b = p
  · rw [h1, hide_at, hide_at]
  · rw [hide_ne h1, hide_ne h1]
    by_cases h2 : b = d
    · rw [h2, hide_at, hide_at]
    · rw [hide_ne h2, hide_ne h2, upd_ne h1]
def spLawE (K : PySem.W.Frag) : Sp := fun vs H Q _ => ∃ (a : Addr) (ns : List Int), vs = [.ref a] ∧ SqL K H a (ns.map V.int) ∧ ns.length ≤ 63 ∧ ∀ H', Q (.bl true) H'
/-- the law's own def; the base knows where sys.modules stands -/
theorem lawOkS {P : Program} {w : World} {K : PySem.W.Frag} {mg : Str → Option Value} {x y : Str} {st : Stmt} {N : List Str} {k : Nat} {sp : Sp} {fa : Addr}
    (hf : mg x = some (.ref fa)) (D : DefAt K mg x st [y]) (S : FnScope N [y] (defScope st)) (len : ∀ xs H Q E, sp xs H Q E → xs.length = [y].length)
    (hbody : ∀ base : Heap, K.In base → base.Ns mainGlobals mg → (∃ o, base.get? sysModules = some o) → ∀ (f : Addr) (cdv : Value) (A : Around) (out : List Env) (s : Shared) (H : Hp) (xs : List V) (Q : VK) (E : XK), A.guards = some [] →
      Room k (A.deeper (envOfC x (defScope st) s.heap.objs.size f cdv)) → sp xs H Q E →
      ∃ t, PSs (cxOf CX0 P w K mg base N x (defScope st) f cdv A out s H E).nox (defBody st) t ∧
        t { nx := fun _ H' => Q .non H', rt := Q } (start N xs) H) :
    ∃ fd : FuncData, (∀ (s : Shared) (u : Value), BindsTo s fd ⟨[u], []⟩ [(y, u)]) ∧
      ∀ base : Heap, K.In base → base.Ns mainGlobals mg → (∃ o, base.get? sysModules = some o) → FnG P w K mg base CX0 (k + 1) fa fd [y] sp := by
  obtain ⟨f, fd, F, m, b⟩ := D.ex
  obtain rfl : f = fa := by
    rw [m] at hf
    cases hf
    rfl
  exact ⟨fd, fun s u => .of_eq (b [u] rfl), fun base h1 h2 h3 => okG F S len (hbody base h1 h2 h3 f)⟩
section
variable {P : Program} {w : World} {K : PySem.W.Frag} {mg : Str → Option Value} {A : ClsA}
theorem c_law {fa : Addr} {fParseError fUnknownName fEmptySequence fInvalidNumber fNothingToUndo fTooMany fRefused fBroken : Addr} (T : Txt K mg A) (hf : mg "law" = some (.ref fa)) (C : Cls K A) (M : CatchTxt K mg A) (X_InvalidForm : ErrAt K mg "InvalidForm" A.cInvalidForm veL "ValueError.__new__") (X_InvalidRow : ErrAt K mg "InvalidRow" A.cInvalidRow veL "ValueError.__new__") (X_InvalidReader : ErrAt K mg "InvalidReader" A.cInvalidReader veL "ValueError.__new__") (X_InvalidPage : ErrAt K mg "InvalidPage" A.cInvalidPage veL "ValueError.__new__") (X_InvalidBook : ErrAt K mg "InvalidBook" A.cInvalidBook veL "ValueError.__new__") (X_InvalidPlace : ErrAt K mg "InvalidPlace" A.cInvalidPlace veL "ValueError.__new__") (X_InvalidSequence : ErrAt K mg "InvalidSequence" A.cInvalidSequence veL "ValueError.__new__") (X_InvalidPlan : ErrAt K mg "InvalidPlan" A.cInvalidPlan veL "ValueError.__new__") (X_InvalidPaper : ErrAt K mg "InvalidPaper" A.cInvalidPaper veL "ValueError.__new__") (X_InvalidOperation : ErrAt K mg "InvalidOperation" A.cInvalidOperation veL "ValueError.__new__") (X_SpanError : ErrAt K mg "SpanError" A.cSpanError veL "ValueError.__new__") (O_ParseError : OwnParseError.Txt K mg A.cParseError fParseError) (O_UnknownName : OwnUnknownName.Txt K mg A.cUnknownName fUnknownName) (O_EmptySequence : OwnEmptySequence.Txt K mg A.cEmptySequence fEmptySequence) (O_InvalidNumber : OwnInvalidNumber.Txt K mg A.cInvalidNumber fInvalidNumber) (O_NothingToUndo : OwnNothingToUndo.Txt K mg A.cNothingToUndo fNothingToUndo) (O_TooMany : OwnTooMany.Txt K mg A.cTooMany fTooMany) (O_Refused : OwnRefused.Txt K mg A.cRefused fRefused) (O_Broken : OwnBroken.Txt K mg A.cBroken fBroken)
    (D__law_dice : DefAt K mg "_law_dice" s__law_dice ["_law_script", "_law_spot"])
    (D__law_roll : DefAt K mg "_law_roll" s__law_roll ["_law_dice_here", "_law_total"])
    (D__law_pick : DefAt K mg "_law_pick" s__law_pick ["_law_dice_here", "_law_items"])
    (D__law_own : DefAt K mg "_law_own" s__law_own ["_law_error"])
    (D__law_all : DefAt K mg "_law_all" s__law_all ["_law_error"])
    (D__law_messages : DefAt K mg "_law_messages" s__law_messages [])
    (D__law_kept : DefAt K mg "_law_kept" s__law_kept ["_law_value", "_law_index"])
    (D__law_caught : DefAt K mg "_law_caught" s__law_caught ["_law_value", "_law_way"])
    (D__law_right : DefAt K mg "_law_right" s__law_right ["_law_value", "_law_index"])
    (D_law : DefAt K mg "law" s_law ["_law_script"])
    : ∃ fd : FuncData, (∀ (s : Shared) (u : Value), BindsTo s fd ⟨[u], []⟩ [("_law_script", u)]) ∧
      ∀ base : Heap, K.In base → base.Ns mainGlobals mg → (∃ o, base.get? sysModules = some o) → FnG P w K mg base CX0 5 fa fd ["_law_script"] (spLawE K) := by
  refine lawOkS hf D_law sc_law (fun xs H Q E h => ?_) (fun base hK hN hS f cdv A' out s H xs Q E hgd hr h => ?_)
  · obtain ⟨a, ns, rfl, _⟩ := h
    rfl
  · obtain ⟨a, ns, rfl, hSq, hlen, k⟩ := h
    have nd := sc_law.nd
    have C__law_dice : CalG P w K mg base 1 "_law_dice" ["_law_script", "_law_spot"] (spDice K) := c_dice T D__law_dice
    have C__law_roll : CalG P w K mg base 1 "_law_roll" ["_law_dice_here", "_law_total"] spRoll := c_roll T D__law_roll
    have C__law_pick : CalG P w K mg base 2 "_law_pick" ["_law_dice_here", "_law_items"] (spPick K) := c_pick T C__law_roll D__law_pick
    have C__law_own : CalG P w K mg base 1 "_law_own" ["_law_error"] (spOwn K A) := c_own T D__law_own
    have C__law_all : CalG P w K mg base 2 "_law_all" ["_law_error"] (spAll K A) := c_all T C__law_own D__law_all
    have C__law_messages : CalG P w K mg base 3 "_law_messages" [] spMsgs := c_messages T C X_InvalidForm X_InvalidRow X_InvalidReader X_InvalidPage X_InvalidBook X_InvalidPlace X_InvalidSequence X_InvalidPlan X_InvalidPaper X_InvalidOperation X_SpanError C__law_all D__law_messages
    have C__law_kept : CalG P w K mg base 3 "_law_kept" ["_law_value", "_law_index"] spKept := c_kept T C O_ParseError O_UnknownName O_EmptySequence O_InvalidNumber O_NothingToUndo O_TooMany O_Refused O_Broken C__law_all D__law_kept
    have C__law_caught : CalG P w K mg base 3 "_law_caught" ["_law_value", "_law_way"] spCaught := c_caught T C M hS X_InvalidPlace O_Broken O_EmptySequence (c_ownE T D__law_own) D__law_caught
    have C__law_right : CalG P w K mg base 4 "_law_right" ["_law_value", "_law_index"] spRight := c_right T hS C__law_messages C__law_kept C__law_caught D__law_right
    have log30 : ((10 : Int) ^ Int.toNat 30).natAbs.log2 < 9000 := by decide +kernel
    have log20 : ((10 : Int) ^ Int.toNat 20).natAbs.log2 < 9000 := by decide +kernel
    have noT : ∀ H : Hp, LamX.Tabs [] H := fun H p hp => nomatch hp
    refine ⟨_, (pss_cons (ps_for PassesOwn.never rfl (pi_range1 rfl T.range (pa_cons (pe_callB (call_max2 rfl) (by rfl) T.max (by decide +kernel) (pa_cons pe_int (pa_cons (pe_callB (call_min2 rfl) (by rfl) T.min (by decide +kernel) (pa_cons pe_int (pa_cons (pe_callB call_len_seq (by rfl) T.len (by decide +kernel) (pa_cons (pv 0) pa_nil)) pa_nil))) pa_nil))) pa_nil)) (pg_name (i := 1) nd rfl (.inl rfl)) (pss_cons (ps_set (i := 2) nd rfl (.inl rfl) (pe_k C__law_dice hgd hr (by decide) rfl (pa_cons (pv 0) (pa_cons (pv 1) pa_nil))))
        (pss_cons (ps_set (i := 3) nd rfl (.inl rfl) (pe_lst (pa_cons pe_non (pa_cons pe_bl (pa_cons pe_int (pa_cons pe_str (pa_cons pe_str (pa_cons (pe_tup (pa_cons (pe_tup (pa_cons pe_int (pa_cons pe_int pa_nil))) (pa_cons (pe_tup (pa_cons pe_int (pa_cons pe_int pa_nil))) pa_nil))) (pa_cons (pe_lst (pa_cons pe_int pa_nil)) (pa_cons (pe_disp (pps_cons pe_int pe_int pps_nil) (by rfl) (by rfl) (fun z => by cases z) (by decide)) (pa_cons (pe_tup (pa_cons (pe_tup pa_nil) (pa_cons (pe_tup (pa_cons pe_str (pa_cons pe_int pa_nil))) pa_nil))) (pa_cons (pe_tup (pa_cons pe_str (pa_cons pe_str pa_nil))) (pa_cons pe_str pa_nil)))))))))))))
        (pss_cons (ps_expr (pe_bm PySem.F.plainAttrs_list PySem.F.slot_list_append PySem.F.type_list_append mt_append (pv 3) (pa_cons (pe_k C__law_roll hgd hr (by decide) rfl (pa_cons (pv 2) (pa_cons (pe_op op_pow pe_int pe_int) pa_nil))) pa_nil)))
        (pss_cons (ps_set (i := 4) nd rfl (.inl rfl) (pe_k C__law_pick hgd hr (by decide) rfl (pa_cons (pv 2) (pa_cons (pe_lst (pa_cons pe_non (pa_cons pe_int (pa_cons pe_int (pa_cons (pe_k C__law_roll hgd hr (by decide) rfl (pa_cons (pv 2) (pa_cons (pe_op op_pow pe_int pe_int) pa_nil))) pa_nil))))) pa_nil))))
        (pss_one (ps_for PassesOwn.never rfl (pi_range1 rfl T.range (pa_cons pe_int pa_nil)) (pg_name (i := 5) nd rfl (.inl rfl)) (pss_one (ps_if (pt_not (pt_val (pe_k C__law_right hgd hr (by decide) rfl (pa_cons (pe_k C__law_pick hgd hr (by decide) rfl (pa_cons (pv 2) (pa_cons (pv 3) pa_nil))) (pa_cons (pv 4) pa_nil))))) (pss_one (ps_ret pe_bl)) pss_nil)))))))))
      (pss_one (ps_ret pe_bl))), ?_⟩
    refine ⟨_, rfl, _, _, rfl, .inl hSq, _, _, rfl, _, _, rfl, _, rfl, ?_, ?_, ?_⟩
    · rw [List.length_map]; split <;> split <;> omega
    · rw [List.length_map]; split <;> split <;> omega
    refine for_range (fun i σ H' => ∃ v1 v2 v3 v4 v5, σ = [some (.ref a), v1, v2, v3, v4, v5] ∧ LamX.ExtN H H') ?_ ?_ ?_
    · exact ⟨_, _, _, _, _, rfl, LamX.ExtN.refl _⟩
    · rintro i σ H0 hi ⟨v1, v2, v3, v4, v5, rfl, e0⟩
      refine ⟨_, rfl, _, rfl, a, ns, i, (by show [V.ref a, V.int (0 + (i : Int))] = _; rw [Int.zero_add]), sql_ext e0 hSq, Nat.le_trans hlen (by decide), fun d l0 q0 c0 nd0 => ?_⟩
      have dd : DiceAt (upd H0 d (.lst [.int l0, .int q0, .int c0])) d := ⟨_, _, _, upd_same⟩
      refine go_nm ?_
      generalize hH1 : upd H0 d (.lst [.int l0, .int q0, .int c0]) = H1 at dd
      have m := MvT.refl (T := []) dd (noT _)
      -- some
      refine a_set (fun v H' => ∃ p xs, v = .ref p ∧ p ≠ d ∧ NewAt H1 p ∧ H' p = some (.lst xs) ∧ DxAll (hide p (hide d H')) xs VALS ∧ MvT [] d H1 H') (fun Q' kQ => ?_) ?_

      · refine ⟨(by show 2 ≤ sizeLine; decide), fun p1 n1 => ?_⟩
        obtain ⟨m, x1, gr⟩ := newT m n1 (.cons (.int _) (.cons (.int _) .nil))
        clear gr
        refine ⟨(by show 2 ≤ sizeLine; decide), fun p2 n2 => ?_⟩
        obtain ⟨m, x2, gr⟩ := newT m n2 (.cons (.int _) (.cons (.int _) .nil))
        replace x1 := gr x1
        clear gr
        refine ⟨(by show 2 ≤ sizeLine; decide), fun p3 n3 => ?_⟩
        obtain ⟨m, x3, gr⟩ := newT m n3 (.cons x1 (.cons x2 .nil))
        clear gr
        refine ⟨(by show 1 ≤ sizeLine; decide), fun p4 n4 => ?_⟩
        obtain ⟨m, x4, gr⟩ := newL m n4 (.cons (.int _) .nil)
        replace x3 := gr x3
        clear gr
        refine fun p5 n5 => ?_
        refine ⟨upd_same, [(.inl 7, .int 7)], rfl, (by decide), ?_⟩
        obtain ⟨m, x5, gr⟩ := newDK (kvs := [(.inl 7, .int 7)]) (ps := [(.int 7, .int 7)]) m n5 (.cons (.int _) .nil)
        replace x3 := gr x3
        replace x4 := gr x4
        clear gr
        refine ⟨(by show 0 ≤ sizeLine; decide), fun p6 n6 => ?_⟩
        obtain ⟨m, x6, gr⟩ := newT m n6 .nil
        replace x3 := gr x3
        replace x4 := gr x4
        replace x5 := gr x5
        clear gr
        refine ⟨(by show 2 ≤ sizeLine; decide), fun p7 n7 => ?_⟩
        obtain ⟨m, x7, gr⟩ := newT m n7 (.cons (.str _) (.cons (.int _) .nil))
        replace x3 := gr x3
        replace x4 := gr x4
        replace x5 := gr x5
        replace x6 := gr x6
        clear gr
        refine ⟨(by show 2 ≤ sizeLine; decide), fun p8 n8 => ?_⟩
        obtain ⟨m, x8, gr⟩ := newT m n8 (.cons x6 (.cons x7 .nil))
        replace x3 := gr x3
        replace x4 := gr x4
        replace x5 := gr x5
        clear gr
        refine ⟨(by show 2 ≤ sizeLine; decide), fun p9 n9 => ?_⟩
        obtain ⟨m, x9, gr⟩ := newT m n9 (.cons (.str _) (.cons (.str _) .nil))
        replace x3 := gr x3
        replace x4 := gr x4
        replace x5 := gr x5
        replace x8 := gr x8
        clear gr
        refine ⟨(by show 11 ≤ sizeLine; decide), fun p10 n10 => ?_⟩
        have pd := m.dice.ne n10
        have pn := m.newAt n10
        refine kQ _ _ ⟨p10, _, rfl, pd, pn, upd_same, DxAll.grow (fun b u e => ?_) (.cons .non (.cons (.bl _) (.cons (.int _) (.cons (.str _) (.cons (.str _) (.cons x3 (.cons x4 (.cons x5 (.cons x8 (.cons x9 (.cons (.str _) .nil))))))))))), m.new n10⟩
        by_cases hb : b = d
        · rw [hb, hide_at] at e
          cases e
        · rw [hide_ne hb] at e
          have hp : b ≠ p10 := ne_of_none e n10
          rw [hide_ne hp, hide_ne hb, upd_ne hp]
          exact e
      rintro _ H2 ⟨p, xs, rfl, pd, pn, hp, dxs, m⟩
      -- append
      refine a_expr (fun H' => ∃ ys ds, H' p = some (.lst ys) ∧ DxAll (hide d H') ys ds ∧ ys.length = 12 ∧ (∀ x ∈ ds, VD x) ∧ MvT [] d H1 H') (fun Q' kQ => ?_) (fun H3 h3 => ?_)
      · refine ⟨_, rfl, .inl ⟨rfl, _, SqL.of hp⟩, _, rfl, _, _, rfl, rfl, ⟨by decide, by decide, by decide⟩, d, _, rfl, m.dice, (by decide), log30, fun r Hr ra rb mr fr => ?_⟩
        have hp2 := mr.get pd hp
        refine ⟨p, xs, .int r, rfl, rfl, hp2, (by rw [dxs.len]; show 11 < sizeLine; decide), kQ _ _ ⟨_, VALS ++ [.int r], upd_same, ?_, (by rw [List.length_append, dxs.len]; rfl), fun x hx => ?_, (m.mv mr).put2 pn pd hp2⟩⟩
        · refine (DxAll.grow (H := hide p (hide d (upd Hr p _))) hide_le ?_)
          rw [hide2_upd]
          exact (dxs.grow (hid_same mr.same)).append (.cons (.int r) .nil)
        · rcases List.mem_append.mp hx with z | z
          · exact vd_vals x z
          · rw [List.mem_singleton.mp z]
            exact vd_int ra rb
      obtain ⟨ys, ds, hp3, dys, ly, vds, m⟩ := h3
      -- index
      refine a_set (fun v H' => ∃ di, Dx (hide d H') v di ∧ VD di ∧ MvT [] d H3 H') (fun Q' kQ => ?_) ?_
      · have n := MvT.refl m.dice m.tabs
        refine ⟨_, rfl, _, rfl, _, _, rfl, rfl, ⟨by decide, by decide, by decide⟩, d, _, rfl, n.dice, (by decide), log20, fun r Hr ra rb mr fr => ?_⟩
        replace n := n.mv mr
        refine ⟨(by show 4 ≤ sizeLine; decide), fun q nq => ?_⟩
        obtain ⟨n, xq, _⟩ := newL n nq (.cons .non (.cons (.int 0) (.cons (.int 1) (.cons (.int r) .nil))))
        obtain ⟨zs, hz, nz, hzs⟩ := lst_in xq
        refine ⟨d, q, zs, rfl, n.dice, SqL.of hz, nz, (by rw [hzs.len]; show 0 < 4; decide), (by rw [hzs.len]; show 4 ≤ 1000; decide), fun j x H9 ej mm _ => ?_⟩
        obtain ⟨dat, hm, hx⟩ := picked hzs mm ej
        refine kQ _ _ ⟨dat, hx, ?_, n.mv mm⟩
        simp only [List.mem_cons, List.not_mem_nil, or_false] at hm
        rcases hm with e | e | e | e <;> rw [e]
        · exact ⟨by decide +kernel, by decide +kernel, by decide +kernel, by decide +kernel, by decide +kernel⟩
        · exact vd_int (by decide) (by decide)
        · exact vd_int (by decide) (by decide)
        · exact vd_int ra (Int.lt_trans rb (by decide))
      rintro vi H4 ⟨di, hdi, vdi, m4⟩
      refine ⟨3, rfl, (by decide), (by decide), ?_⟩
      refine for_range (fun i σ H' => ∃ v1 v5, σ = [some (.ref a), v1, some (.ref d), some (.ref p), some vi, v5] ∧ MvT [] d H4 H') ?_ ?_ ?_
      · exact ⟨_, _, rfl, MvT.refl m4.dice m4.tabs⟩
      · rintro i' σ H5 hi' ⟨v1, v5, rfl, m5⟩
        have m35 := m4.trans m5
        refine a_if1 (fun b H' => b = false ∧ MvT [] d H4 H') (fun Q' kQ => ?_) (fun H' h => nomatch h.1) (fun H6 h => ?_)
        · have hp5 : H5 p = some (.lst ys) := by
            have z := m35.ext p _ (by rw [hide_ne pd]; exact hp3) (fun _ z => by cases z)
            rw [hide_ne pd] at z
            exact z
          refine ⟨_, rfl, _, rfl, d, p, ys, rfl, m5.dice, SqL.of hp5, pd, (by rw [ly]; decide), (by rw [ly]; decide), fun j x H7 ej mm _ => ?_⟩
          obtain ⟨dat, hm, hx⟩ := picked (DxAll.ext m35.ext dys) mm ej
          refine ⟨_, rfl, x, vi, dat, di, rfl, hx.seen, (mm.dx (m5.dx hdi)).seen, right_ok (vds dat hm) vdi, fun H8 s8 => ⟨_, rfl, ?_⟩⟩
          exact kQ _ _ ⟨rfl, (m5.mv mm).same s8⟩
        · exact ⟨_, _, rfl, h.2⟩
      · rintro σ H5 ⟨v1, v5, rfl, m5⟩
        have mAll := (m.trans m4).trans m5
        rw [← hH1] at mAll
        exact ⟨_, _, _, _, _, rfl, e0.trans (MvT.out nd0 mAll)⟩
    · rintro σ H' ⟨v1, v2, v3, v4, v5, rfl, e0⟩
      exact k H'
end
end G

set_option Elab.async false
set_option linter.all false
open PySem PySem.W PyProof.Rows in
set_option maxRecDepth 100000 in
set_option maxHeartbeats 0 in
theorem PySem.Challenge.cw_fingerbooks_k01_errors_and_what_they_kee_holds : PySem.Challenge.rw_fingerbooks_k01_errors_and_what_they_kee.Holds := by
  w_on; o_law; k_head; (case hw => w_witness2)
  k_fill
  refine G.endGS (n := 63) (k := 5) (sp := fun K => G.spLawE K) (x := "_law_script") rfl (by decide) rfl ⟨rfl, by decide, by decide⟩ (by kernel_rfl) (fun w h Y => PySem.W.kIn_of Y) ?F (fun K H a ns hl hS => ⟨a, ns, rfl, hS, hl, fun _ => rfl⟩)
  case F =>
    intro w mg fa h KX gl hmg
    refine' G.c_law (A := ⟨37, 49, 61, 73, 85, 97, 109, 121, 133, 145, 164, 183, 203, 223, 243, 263, 283, 303, 24⟩) ⟨PySem.W.mg_none_of KX gl ?z1, PySem.W.mg_none_of KX gl ?z2, PySem.W.mg_none_of KX gl ?z3, PySem.W.mg_none_of KX gl ?z4, PySem.W.mg_none_of KX gl ?z5, PySem.W.mg_none_of KX gl ?z6, PySem.W.mg_none_of KX gl ?z7, PySem.W.mg_none_of KX gl ?z8, PySem.W.mg_none_of KX gl ?z9, PySem.W.mg_none_of KX gl ?z10, PySem.W.mg_none_of KX gl ?z11, PySem.W.mg_none_of KX gl ?z12, PySem.W.mg_none_of KX gl ?z13, PySem.W.mg_none_of KX gl ?z14, PySem.W.mg_none_of KX gl ?z15, ⟨_, PySem.W.mg_of KX gl ?z16, ?z17⟩, ⟨_, PySem.W.mg_of KX gl ?z18, ?z19⟩, ⟨_, PySem.W.mg_of KX gl ?z20, ?z21⟩, ⟨_, PySem.W.mg_of KX gl ?z22, ?z23⟩, ⟨_, PySem.W.mg_of KX gl ?z24, ?z25⟩, ⟨_, PySem.W.mg_of KX gl ?z26, ?z27⟩, ⟨_, PySem.W.mg_of KX gl ?z28, ?z29⟩, ⟨_, PySem.W.mg_of KX gl ?z30, ?z31⟩, ⟨_, PySem.W.mg_of KX gl ?z32, ?z33⟩, ⟨_, PySem.W.mg_of KX gl ?z34, ?z35⟩, ⟨_, PySem.W.mg_of KX gl ?z36, ?z37⟩, ⟨_, PySem.W.mg_of KX gl ?z38, ?z39⟩, ⟨_, PySem.W.mg_of KX gl ?z40, ?z41⟩, ⟨_, PySem.W.mg_of KX gl ?z42, ?z43⟩, ⟨_, PySem.W.mg_of KX gl ?z44, ?z45⟩, ⟨_, PySem.W.mg_of KX gl ?z46, ?z47⟩, ⟨_, PySem.W.mg_of KX gl ?z48, ?z49⟩, ⟨_, PySem.W.mg_of KX gl ?z50, ?z51⟩, ⟨_, PySem.W.mg_of KX gl ?z52, ?z53⟩⟩ hmg ⟨⟨⟨?z54, ?z55, ?z56, ?z57, ?z58, ?z59, ?z60, ?z61⟩, ?z62, ?z63⟩, ⟨⟨?z64, ?z65, ?z66, ?z67, ?z68, ?z69, ?z70, ?z71⟩, ?z72, ?z73⟩, ⟨⟨?z74, ?z75, ?z76, ?z77, ?z78, ?z79, ?z80, ?z81⟩, ?z82, ?z83⟩, ⟨⟨?z84, ?z85, ?z86, ?z87, ?z88, ?z89, ?z90, ?z91⟩, ?z92, ?z93⟩, ⟨⟨?z94, ?z95, ?z96, ?z97, ?z98, ?z99, ?z100, ?z101⟩, ?z102, ?z103⟩, ⟨⟨?z104, ?z105, ?z106, ?z107, ?z108, ?z109, ?z110, ?z111⟩, ?z112, ?z113⟩, ⟨⟨?z114, ?z115, ?z116, ?z117, ?z118, ?z119, ?z120, ?z121⟩, ?z122, ?z123⟩, ⟨⟨?z124, ?z125, ?z126, ?z127, ?z128, ?z129, ?z130, ?z131⟩, ?z132, ?z133⟩, ⟨⟨?z134, ?z135, ?z136, ?z137, ?z138, ?z139, ?z140, ?z141⟩, ?z142, ?z143⟩, ⟨⟨?z144, ?z145, ?z146, ?z147, ?z148, ?z149, ?z150, ?z151⟩, ?z152, ?z153⟩, ⟨⟨?z154, ?z155, ?z156, ?z157, ?z158, ?z159, ?z160, ?z161⟩, ?z162, ?z163⟩, ⟨⟨?z164, ?z165, ?z166, ?z167, ?z168, ?z169, ?z170, ?z171⟩, ?z172, ?z173⟩, ⟨⟨?z174, ?z175, ?z176, ?z177, ?z178, ?z179, ?z180, ?z181⟩, ?z182, ?z183⟩, ⟨⟨?z184, ?z185, ?z186, ?z187, ?z188, ?z189, ?z190, ?z191⟩, ?z192, ?z193⟩, ⟨⟨?z194, ?z195, ?z196, ?z197, ?z198, ?z199, ?z200, ?z201⟩, ?z202, ?z203⟩, ⟨⟨?z204, ?z205, ?z206, ?z207, ?z208, ?z209, ?z210, ?z211⟩, ?z212, ?z213⟩, ⟨⟨?z214, ?z215, ?z216, ?z217, ?z218, ?z219, ?z220, ?z221⟩, ?z222, ?z223⟩, ⟨⟨?z224, ?z225, ?z226, ?z227, ?z228, ?z229, ?z230, ?z231⟩, ?z232, ?z233⟩, ⟨⟨?z234, ?z235, ?z236, ?z237, ?z238, ?z239, ?z240, ?z241⟩, ?z242, ?z243⟩⟩ ⟨PySem.W.mg_of KX gl ?z244, PySem.W.mg_of KX gl ?z245, PySem.W.mg_of KX gl ?z246, ?z247, ?z248, ?z249, ?z250, ?z251, ?z252⟩ ⟨PySem.W.mg_of KX gl ?z253, ?z254, ?z255, ?z256, ?z257⟩ ⟨PySem.W.mg_of KX gl ?z258, ?z259, ?z260, ?z261, ?z262⟩ ⟨PySem.W.mg_of KX gl ?z263, ?z264, ?z265, ?z266, ?z267⟩ ⟨PySem.W.mg_of KX gl ?z268, ?z269, ?z270, ?z271, ?z272⟩ ⟨PySem.W.mg_of KX gl ?z273, ?z274, ?z275, ?z276, ?z277⟩ ⟨PySem.W.mg_of KX gl ?z278, ?z279, ?z280, ?z281, ?z282⟩ ⟨PySem.W.mg_of KX gl ?z283, ?z284, ?z285, ?z286, ?z287⟩ ⟨PySem.W.mg_of KX gl ?z288, ?z289, ?z290, ?z291, ?z292⟩ ⟨PySem.W.mg_of KX gl ?z293, ?z294, ?z295, ?z296, ?z297⟩ ⟨PySem.W.mg_of KX gl ?z298, ?z299, ?z300, ?z301, ?z302⟩ ⟨PySem.W.mg_of KX gl ?z303, ?z304, ?z305, ?z306, ?z307⟩ (OwnParseError.mk_txt KX gl ?z308 ?z309 ?z310 ?z311 ?z312 ?z313 ?z314 ?z315 ?z316 ?z317 ?z318 ?z319 ?z320 ?z321 ?z322 ?z323 ?z324 ?z325) (OwnUnknownName.mk_txt KX gl ?z326 ?z327 ?z328 ?z329 ?z330 ?z331 ?z332 ?z333 ?z334 ?z335 ?z336 ?z337 ?z338 ?z339 ?z340 ?z341 ?z342 ?z343) (OwnEmptySequence.mk_txt KX gl ?z344 ?z345 ?z346 ?z347 ?z348 ?z349 ?z350 ?z351 ?z352 ?z353 ?z354 ?z355 ?z356 ?z357 ?z358 ?z359 ?z360 ?z361) (OwnInvalidNumber.mk_txt KX gl ?z362 ?z363 ?z364 ?z365 ?z366 ?z367 ?z368 ?z369 ?z370 ?z371 ?z372 ?z373 ?z374 ?z375 ?z376 ?z377 ?z378 ?z379) (OwnNothingToUndo.mk_txt KX gl ?z380 ?z381 ?z382 ?z383 ?z384 ?z385 ?z386 ?z387 ?z388 ?z389 ?z390 ?z391 ?z392 ?z393 ?z394 ?z395 ?z396 ?z397) (OwnTooMany.mk_txt KX gl ?z398 ?z399 ?z400 ?z401 ?z402 ?z403 ?z404 ?z405 ?z406 ?z407 ?z408 ?z409 ?z410 ?z411 ?z412 ?z413 ?z414 ?z415) (OwnRefused.mk_txt KX gl ?z416 ?z417 ?z418 ?z419 ?z420 ?z421 ?z422 ?z423 ?z424 ?z425 ?z426 ?z427 ?z428 ?z429 ?z430 ?z431 ?z432 ?z433) (OwnBroken.mk_txt KX gl ?z434 ?z435 ?z436 ?z437 ?z438 ?z439 ?z440 ?z441 ?z442 ?z443 ?z444 ?z445 ?z446 ?z447 ?z448 ?z449 ?z450 ?z451) (G.defAt KX gl ?z452 ?z453 ?z454 ?z455 ?z456) (G.defAt KX gl ?z457 ?z458 ?z459 ?z460 ?z461) (G.defAt KX gl ?z462 ?z463 ?z464 ?z465 ?z466) (G.defAt KX gl ?z467 ?z468 ?z469 ?z470 ?z471) (G.defAt KX gl ?z472 ?z473 ?z474 ?z475 ?z476) (G.defAt KX gl ?z477 ?z478 ?z479 ?z480 ?z481) (G.defAt KX gl ?z482 ?z483 ?z484 ?z485 ?z486) (G.defAt KX gl ?z487 ?z488 ?z489 ?z490 ?z491) (G.defAt KX gl ?z492 ?z493 ?z494 ?z495 ?z496) (G.defAt KX gl ?z497 ?z498 ?z499 ?z500 ?z501)
    (case z1 => k_is)
    (case z2 => k_is)
    (case z3 => k_is)
    (case z4 => k_is)
    (case z5 => k_is)
    (case z6 => k_is)
    (case z7 => k_is)
    (case z8 => k_is)
    (case z9 => k_is)
    (case z10 => k_is)
    (case z11 => k_is)
    (case z12 => k_is)
    (case z13 => k_is)
    (case z14 => k_is)
    (case z15 => k_is)
    (case z16 => k_is)
    (case z17 => exact rfl)
    (case z18 => k_is)
    (case z19 => exact rfl)
    (case z20 => k_is)
    (case z21 => exact rfl)
    (case z22 => k_is)
    (case z23 => exact rfl)
    (case z24 => k_is)
    (case z25 => exact rfl)
    (case z26 => k_is)
    (case z27 => exact rfl)
    (case z28 => k_is)
    (case z29 => exact rfl)
    (case z30 => k_is)
    (case z31 => exact rfl)
    (case z32 => k_is)
    (case z33 => exact rfl)
    (case z34 => k_is)
    (case z35 => exact rfl)
    (case z36 => k_is)
    (case z37 => exact rfl)
    (case z38 => k_is)
    (case z39 => exact rfl)
    (case z40 => k_is)
    (case z41 => exact rfl)
    (case z42 => k_is)
    (case z43 => exact rfl)
    (case z44 => k_is)
    (case z45 => exact rfl)
    (case z46 => k_is)
    (case z47 => exact rfl)
    (case z48 => k_is)
    (case z49 => exact rfl)
    (case z50 => k_is)
    (case z51 => exact rfl)
    (case z52 => k_is)
    (case z53 => exact rfl)
    (case z54 => first | k_is | kernel_rfl)
    (case z55 => first | k_is | kernel_rfl)
    (case z56 => first | k_is | kernel_rfl)
    (case z57 => first | k_is | kernel_rfl)
    (case z58 => first | k_is | kernel_rfl)
    (case z59 => first | k_is | kernel_rfl)
    (case z60 => first | k_is | kernel_rfl)
    (case z61 => first | k_is | kernel_rfl)
    (case z62 => kernel_rfl)
    (case z63 => kernel_rfl)
    (case z64 => first | k_is | kernel_rfl)
    (case z65 => first | k_is | kernel_rfl)
    (case z66 => first | k_is | kernel_rfl)
    (case z67 => first | k_is | kernel_rfl)
    (case z68 => first | k_is | kernel_rfl)
    (case z69 => first | k_is | kernel_rfl)
    (case z70 => first | k_is | kernel_rfl)
    (case z71 => first | k_is | kernel_rfl)
    (case z72 => kernel_rfl)
    (case z73 => kernel_rfl)
    (case z74 => first | k_is | kernel_rfl)
    (case z75 => first | k_is | kernel_rfl)
    (case z76 => first | k_is | kernel_rfl)
    (case z77 => first | k_is | kernel_rfl)
    (case z78 => first | k_is | kernel_rfl)
    (case z79 => first | k_is | kernel_rfl)
    (case z80 => first | k_is | kernel_rfl)
    (case z81 => first | k_is | kernel_rfl)
    (case z82 => kernel_rfl)
    (case z83 => kernel_rfl)
    (case z84 => first | k_is | kernel_rfl)
    (case z85 => first | k_is | kernel_rfl)
    (case z86 => first | k_is | kernel_rfl)
    (case z87 => first | k_is | kernel_rfl)
    (case z88 => first | k_is | kernel_rfl)
    (case z89 => first | k_is | kernel_rfl)
    (case z90 => first | k_is | kernel_rfl)
    (case z91 => first | k_is | kernel_rfl)
    (case z92 => kernel_rfl)
    (case z93 => kernel_rfl)
    (case z94 => first | k_is | kernel_rfl)
    (case z95 => first | k_is | kernel_rfl)
    (case z96 => first | k_is | kernel_rfl)
    (case z97 => first | k_is | kernel_rfl)
    (case z98 => first | k_is | kernel_rfl)
    (case z99 => first | k_is | kernel_rfl)
    (case z100 => first | k_is | kernel_rfl)
    (case z101 => first | k_is | kernel_rfl)
    (case z102 => kernel_rfl)
    (case z103 => kernel_rfl)
    (case z104 => first | k_is | kernel_rfl)
    (case z105 => first | k_is | kernel_rfl)
    (case z106 => first | k_is | kernel_rfl)
    (case z107 => first | k_is | kernel_rfl)
    (case z108 => first | k_is | kernel_rfl)
    (case z109 => first | k_is | kernel_rfl)
    (case z110 => first | k_is | kernel_rfl)
    (case z111 => first | k_is | kernel_rfl)
    (case z112 => kernel_rfl)
    (case z113 => kernel_rfl)
    (case z114 => first | k_is | kernel_rfl)
    (case z115 => first | k_is | kernel_rfl)
    (case z116 => first | k_is | kernel_rfl)
    (case z117 => first | k_is | kernel_rfl)
    (case z118 => first | k_is | kernel_rfl)
    (case z119 => first | k_is | kernel_rfl)
    (case z120 => first | k_is | kernel_rfl)
    (case z121 => first | k_is | kernel_rfl)
    (case z122 => kernel_rfl)
    (case z123 => kernel_rfl)
    (case z124 => first | k_is | kernel_rfl)
    (case z125 => first | k_is | kernel_rfl)
    (case z126 => first | k_is | kernel_rfl)
    (case z127 => first | k_is | kernel_rfl)
    (case z128 => first | k_is | kernel_rfl)
    (case z129 => first | k_is | kernel_rfl)
    (case z130 => first | k_is | kernel_rfl)
    (case z131 => first | k_is | kernel_rfl)
    (case z132 => kernel_rfl)
    (case z133 => kernel_rfl)
    (case z134 => first | k_is | kernel_rfl)
    (case z135 => first | k_is | kernel_rfl)
    (case z136 => first | k_is | kernel_rfl)
    (case z137 => first | k_is | kernel_rfl)
    (case z138 => first | k_is | kernel_rfl)
    (case z139 => first | k_is | kernel_rfl)
    (case z140 => first | k_is | kernel_rfl)
    (case z141 => first | k_is | kernel_rfl)
    (case z142 => kernel_rfl)
    (case z143 => kernel_rfl)
    (case z144 => first | k_is | kernel_rfl)
    (case z145 => first | k_is | kernel_rfl)
    (case z146 => first | k_is | kernel_rfl)
    (case z147 => first | k_is | kernel_rfl)
    (case z148 => first | k_is | kernel_rfl)
    (case z149 => first | k_is | kernel_rfl)
    (case z150 => first | k_is | kernel_rfl)
    (case z151 => first | k_is | kernel_rfl)
    (case z152 => kernel_rfl)
    (case z153 => kernel_rfl)
    (case z154 => first | k_is | kernel_rfl)
    (case z155 => first | k_is | kernel_rfl)
    (case z156 => first | k_is | kernel_rfl)
    (case z157 => first | k_is | kernel_rfl)
    (case z158 => first | k_is | kernel_rfl)
    (case z159 => first | k_is | kernel_rfl)
    (case z160 => first | k_is | kernel_rfl)
    (case z161 => first | k_is | kernel_rfl)
    (case z162 => kernel_rfl)
    (case z163 => kernel_rfl)
    (case z164 => first | k_is | kernel_rfl)
    (case z165 => first | k_is | kernel_rfl)
    (case z166 => first | k_is | kernel_rfl)
    (case z167 => first | k_is | kernel_rfl)
    (case z168 => first | k_is | kernel_rfl)
    (case z169 => first | k_is | kernel_rfl)
    (case z170 => first | k_is | kernel_rfl)
    (case z171 => first | k_is | kernel_rfl)
    (case z172 => kernel_rfl)
    (case z173 => kernel_rfl)
    (case z174 => first | k_is | kernel_rfl)
    (case z175 => first | k_is | kernel_rfl)
    (case z176 => first | k_is | kernel_rfl)
    (case z177 => first | k_is | kernel_rfl)
    (case z178 => first | k_is | kernel_rfl)
    (case z179 => first | k_is | kernel_rfl)
    (case z180 => first | k_is | kernel_rfl)
    (case z181 => first | k_is | kernel_rfl)
    (case z182 => kernel_rfl)
    (case z183 => kernel_rfl)
    (case z184 => first | k_is | kernel_rfl)
    (case z185 => first | k_is | kernel_rfl)
    (case z186 => first | k_is | kernel_rfl)
    (case z187 => first | k_is | kernel_rfl)
    (case z188 => first | k_is | kernel_rfl)
    (case z189 => first | k_is | kernel_rfl)
    (case z190 => first | k_is | kernel_rfl)
    (case z191 => first | k_is | kernel_rfl)
    (case z192 => kernel_rfl)
    (case z193 => kernel_rfl)
    (case z194 => first | k_is | kernel_rfl)
    (case z195 => first | k_is | kernel_rfl)
    (case z196 => first | k_is | kernel_rfl)
    (case z197 => first | k_is | kernel_rfl)
    (case z198 => first | k_is | kernel_rfl)
    (case z199 => first | k_is | kernel_rfl)
    (case z200 => first | k_is | kernel_rfl)
    (case z201 => first | k_is | kernel_rfl)
    (case z202 => kernel_rfl)
    (case z203 => kernel_rfl)
    (case z204 => first | k_is | kernel_rfl)
    (case z205 => first | k_is | kernel_rfl)
    (case z206 => first | k_is | kernel_rfl)
    (case z207 => first | k_is | kernel_rfl)
    (case z208 => first | k_is | kernel_rfl)
    (case z209 => first | k_is | kernel_rfl)
    (case z210 => first | k_is | kernel_rfl)
    (case z211 => first | k_is | kernel_rfl)
    (case z212 => kernel_rfl)
    (case z213 => kernel_rfl)
    (case z214 => first | k_is | kernel_rfl)
    (case z215 => first | k_is | kernel_rfl)
    (case z216 => first | k_is | kernel_rfl)
    (case z217 => first | k_is | kernel_rfl)
    (case z218 => first | k_is | kernel_rfl)
    (case z219 => first | k_is | kernel_rfl)
    (case z220 => first | k_is | kernel_rfl)
    (case z221 => first | k_is | kernel_rfl)
    (case z222 => kernel_rfl)
    (case z223 => kernel_rfl)
    (case z224 => first | k_is | kernel_rfl)
    (case z225 => first | k_is | kernel_rfl)
    (case z226 => first | k_is | kernel_rfl)
    (case z227 => first | k_is | kernel_rfl)
    (case z228 => first | k_is | kernel_rfl)
    (case z229 => first | k_is | kernel_rfl)
    (case z230 => first | k_is | kernel_rfl)
    (case z231 => first | k_is | kernel_rfl)
    (case z232 => kernel_rfl)
    (case z233 => kernel_rfl)
    (case z234 => first | k_is | kernel_rfl)
    (case z235 => first | k_is | kernel_rfl)
    (case z236 => first | k_is | kernel_rfl)
    (case z237 => first | k_is | kernel_rfl)
    (case z238 => first | k_is | kernel_rfl)
    (case z239 => first | k_is | kernel_rfl)
    (case z240 => first | k_is | kernel_rfl)
    (case z241 => first | k_is | kernel_rfl)
    (case z242 => kernel_rfl)
    (case z243 => kernel_rfl)
    (case z244 => k_is)
    (case z245 => k_is)
    (case z246 => k_is)
    (case z247 => first | k_is | kernel_rfl)
    (case z248 => first | k_is | kernel_rfl)
    (case z249 => first | k_is | kernel_rfl)
    (case z250 => first | k_is | kernel_rfl)
    (case z251 => first | k_is | kernel_rfl)
    (case z252 => first | k_is | kernel_rfl)
    (case z253 => k_is)
    (case z254 => k_exc)
    (case z255 => k_is)
    (case z256 => k_is)
    (case z257 => k_is)
    (case z258 => k_is)
    (case z259 => k_exc)
    (case z260 => k_is)
    (case z261 => k_is)
    (case z262 => k_is)
    (case z263 => k_is)
    (case z264 => k_exc)
    (case z265 => k_is)
    (case z266 => k_is)
    (case z267 => k_is)
    (case z268 => k_is)
    (case z269 => k_exc)
    (case z270 => k_is)
    (case z271 => k_is)
    (case z272 => k_is)
    (case z273 => k_is)
    (case z274 => k_exc)
    (case z275 => k_is)
    (case z276 => k_is)
    (case z277 => k_is)
    (case z278 => k_is)
    (case z279 => k_exc)
    (case z280 => k_is)
    (case z281 => k_is)
    (case z282 => k_is)
    (case z283 => k_is)
    (case z284 => k_exc)
    (case z285 => k_is)
    (case z286 => k_is)
    (case z287 => k_is)
    (case z288 => k_is)
    (case z289 => k_exc)
    (case z290 => k_is)
    (case z291 => k_is)
    (case z292 => k_is)
    (case z293 => k_is)
    (case z294 => k_exc)
    (case z295 => k_is)
    (case z296 => k_is)
    (case z297 => k_is)
    (case z298 => k_is)
    (case z299 => k_exc)
    (case z300 => k_is)
    (case z301 => k_is)
    (case z302 => k_is)
    (case z303 => k_is)
    (case z304 => k_exc)
    (case z305 => k_is)
    (case z306 => k_is)
    (case z307 => k_is)
    (case z308 => k_is)
    (case z309 => k_is)
    (case z310 => decide +kernel)
    (case z311 => first | k_is | kernel_rfl)
    (case z312 => first | k_is | kernel_rfl)
    (case z313 => first | k_is | kernel_rfl)
    (case z314 => first | k_is | kernel_rfl)
    (case z315 => first | k_is | kernel_rfl)
    (case z316 => first | k_is | kernel_rfl)
    (case z317 => first | k_is | kernel_rfl)
    (case z318 => first | k_is | kernel_rfl)
    (case z319 => first | k_is | kernel_rfl)
    (case z320 => first | k_is | kernel_rfl)
    (case z321 => first | k_is | kernel_rfl)
    (case z322 => first | k_is | kernel_rfl)
    (case z323 => first | k_is | kernel_rfl)
    (case z324 => k_is)
    (case z325 => k_is)
    (case z326 => k_is)
    (case z327 => k_is)
    (case z328 => decide +kernel)
    (case z329 => first | k_is | kernel_rfl)
    (case z330 => first | k_is | kernel_rfl)
    (case z331 => first | k_is | kernel_rfl)
    (case z332 => first | k_is | kernel_rfl)
    (case z333 => first | k_is | kernel_rfl)
    (case z334 => first | k_is | kernel_rfl)
    (case z335 => first | k_is | kernel_rfl)
    (case z336 => first | k_is | kernel_rfl)
    (case z337 => first | k_is | kernel_rfl)
    (case z338 => first | k_is | kernel_rfl)
    (case z339 => first | k_is | kernel_rfl)
    (case z340 => first | k_is | kernel_rfl)
    (case z341 => first | k_is | kernel_rfl)
    (case z342 => k_is)
    (case z343 => k_is)
    (case z344 => k_is)
    (case z345 => k_is)
    (case z346 => decide +kernel)
    (case z347 => first | k_is | kernel_rfl)
    (case z348 => first | k_is | kernel_rfl)
    (case z349 => first | k_is | kernel_rfl)
    (case z350 => first | k_is | kernel_rfl)
    (case z351 => first | k_is | kernel_rfl)
    (case z352 => first | k_is | kernel_rfl)
    (case z353 => first | k_is | kernel_rfl)
    (case z354 => first | k_is | kernel_rfl)
    (case z355 => first | k_is | kernel_rfl)
    (case z356 => first | k_is | kernel_rfl)
    (case z357 => first | k_is | kernel_rfl)
    (case z358 => first | k_is | kernel_rfl)
    (case z359 => first | k_is | kernel_rfl)
    (case z360 => k_is)
    (case z361 => k_is)
    (case z362 => k_is)
    (case z363 => k_is)
    (case z364 => decide +kernel)
    (case z365 => first | k_is | kernel_rfl)
    (case z366 => first | k_is | kernel_rfl)
    (case z367 => first | k_is | kernel_rfl)
    (case z368 => first | k_is | kernel_rfl)
    (case z369 => first | k_is | kernel_rfl)
    (case z370 => first | k_is | kernel_rfl)
    (case z371 => first | k_is | kernel_rfl)
    (case z372 => first | k_is | kernel_rfl)
    (case z373 => first | k_is | kernel_rfl)
    (case z374 => first | k_is | kernel_rfl)
    (case z375 => first | k_is | kernel_rfl)
    (case z376 => first | k_is | kernel_rfl)
    (case z377 => first | k_is | kernel_rfl)
    (case z378 => k_is)
    (case z379 => k_is)
    (case z380 => k_is)
    (case z381 => k_is)
    (case z382 => decide +kernel)
    (case z383 => first | k_is | kernel_rfl)
    (case z384 => first | k_is | kernel_rfl)
    (case z385 => first | k_is | kernel_rfl)
    (case z386 => first | k_is | kernel_rfl)
    (case z387 => first | k_is | kernel_rfl)
    (case z388 => first | k_is | kernel_rfl)
    (case z389 => first | k_is | kernel_rfl)
    (case z390 => first | k_is | kernel_rfl)
    (case z391 => first | k_is | kernel_rfl)
    (case z392 => first | k_is | kernel_rfl)
    (case z393 => first | k_is | kernel_rfl)
    (case z394 => first | k_is | kernel_rfl)
    (case z395 => first | k_is | kernel_rfl)
    (case z396 => k_is)
    (case z397 => k_is)
    (case z398 => k_is)
    (case z399 => k_is)
    (case z400 => decide +kernel)
    (case z401 => first | k_is | kernel_rfl)
    (case z402 => first | k_is | kernel_rfl)
    (case z403 => first | k_is | kernel_rfl)
    (case z404 => first | k_is | kernel_rfl)
    (case z405 => first | k_is | kernel_rfl)
    (case z406 => first | k_is | kernel_rfl)
    (case z407 => first | k_is | kernel_rfl)
    (case z408 => first | k_is | kernel_rfl)
    (case z409 => first | k_is | kernel_rfl)
    (case z410 => first | k_is | kernel_rfl)
    (case z411 => first | k_is | kernel_rfl)
    (case z412 => first | k_is | kernel_rfl)
    (case z413 => first | k_is | kernel_rfl)
    (case z414 => k_is)
    (case z415 => k_is)
    (case z416 => k_is)
    (case z417 => k_is)
    (case z418 => decide +kernel)
    (case z419 => first | k_is | kernel_rfl)
    (case z420 => first | k_is | kernel_rfl)
    (case z421 => first | k_is | kernel_rfl)
    (case z422 => first | k_is | kernel_rfl)
    (case z423 => first | k_is | kernel_rfl)
    (case z424 => first | k_is | kernel_rfl)
    (case z425 => first | k_is | kernel_rfl)
    (case z426 => first | k_is | kernel_rfl)
    (case z427 => first | k_is | kernel_rfl)
    (case z428 => first | k_is | kernel_rfl)
    (case z429 => first | k_is | kernel_rfl)
    (case z430 => first | k_is | kernel_rfl)
    (case z431 => first | k_is | kernel_rfl)
    (case z432 => k_is)
    (case z433 => k_is)
    (case z434 => k_is)
    (case z435 => k_is)
    (case z436 => decide +kernel)
    (case z437 => first | k_is | kernel_rfl)
    (case z438 => first | k_is | kernel_rfl)
    (case z439 => first | k_is | kernel_rfl)
    (case z440 => first | k_is | kernel_rfl)
    (case z441 => first | k_is | kernel_rfl)
    (case z442 => first | k_is | kernel_rfl)
    (case z443 => first | k_is | kernel_rfl)
    (case z444 => first | k_is | kernel_rfl)
    (case z445 => first | k_is | kernel_rfl)
    (case z446 => first | k_is | kernel_rfl)
    (case z447 => first | k_is | kernel_rfl)
    (case z448 => first | k_is | kernel_rfl)
    (case z449 => first | k_is | kernel_rfl)
    (case z450 => k_is)
    (case z451 => k_is)
    (case z452 => exact fun us hl => match us, hl with | [_, _], _ => rfl)
    (case z453 => k_is)
    (case z454 => k_is)
    (case z455 => k_is)
    (case z456 => k_is)
    (case z457 => exact fun us hl => match us, hl with | [_, _], _ => rfl)
    (case z458 => k_is)
    (case z459 => k_is)
    (case z460 => k_is)
    (case z461 => k_is)
    (case z462 => exact fun us hl => match us, hl with | [_, _], _ => rfl)
    (case z463 => k_is)
    (case z464 => k_is)
    (case z465 => k_is)
    (case z466 => k_is)
    (case z467 => exact fun us hl => match us, hl with | [_], _ => rfl)
    (case z468 => k_is)
    (case z469 => k_is)
    (case z470 => k_is)
    (case z471 => k_is)
    (case z472 => exact fun us hl => match us, hl with | [_], _ => rfl)
    (case z473 => k_is)
    (case z474 => k_is)
    (case z475 => k_is)
    (case z476 => k_is)
    (case z477 => exact fun us hl => match us, hl with | [], _ => rfl)
    (case z478 => k_is)
    (case z479 => k_is)
    (case z480 => k_is)
    (case z481 => k_is)
    (case z482 => exact fun us hl => match us, hl with | [_, _], _ => rfl)
    (case z483 => k_is)
    (case z484 => k_is)
    (case z485 => k_is)
    (case z486 => k_is)
    (case z487 => exact fun us hl => match us, hl with | [_, _], _ => rfl)
    (case z488 => k_is)
    (case z489 => k_is)
    (case z490 => k_is)
    (case z491 => k_is)
    (case z492 => exact fun us hl => match us, hl with | [_, _], _ => rfl)
    (case z493 => k_is)
    (case z494 => k_is)
    (case z495 => k_is)
    (case z496 => k_is)
    (case z497 => exact fun us hl => match us, hl with | [_], _ => rfl)
    (case z498 => k_is)
    (case z499 => k_is)
    (case z500 => k_is)
    (case z501 => k_is)

