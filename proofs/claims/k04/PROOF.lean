import PyProof.Rows.All
import Wide.All
import OpenK.AllK
import Wide.FinOn
import PyProof.ReprReads
import PyProof.ReprText
import PyProof.ReprLen
import PyProof.ReprBulk
import PyProof.ReprRoads
import HandS.ForMost
import HandS.IsInst
import HandS.Wide
import HandS.StrMore
import HandS.Codes
import KE.DataMinMax
import HandS.TupAny
import HandS.TupMul
import HandS.Style
import HandS.Conv
import HandS.Walk
import HandS.Exc
import HandS.ExcOwn
import HandS.WordsExc
import HandS.TryOnly
import HandS.TryMany
import HandS.Small
import PyProof.EqAt
import PyProof.EqKinds
import PyProof.TupleCall
import KE.KExcInit
import HandS.ForExc
import HandS.ExcInit
import Open.SpecLaws
import KE.OsGo
import HandS.Lambda
import HandS.EndTab
import KE.KNest
import PyProof.P3In
import PyProof.FactsAll.dict
import HandS.FStr
import KE.GoesRaise
import KE.GoesComp
import HandS.Comp
import HandS.Deep
import PyProof.StrOps2
import PySem.Challenge.RW_fingerbooks_k04_whole_texts_of_rows
set_option Elab.async false
set_option linter.all false
set_option maxRecDepth 100000
set_option maxHeartbeats 2000000
namespace G
open PySem PySem.Spec PyProof.Rows L2

/-! ## Promises that hold where no text of an object is being written (guards empty) -/
structure FnG (P : Program) (w : World) (K : PySem.W.Frag) (mg : Str → Option Value) (base : Heap)
    (CX : CXT) (k : Nat) (f : Addr) (fd : FuncData) (ps : List Str) (sp : Sp) : Prop where
  len : ∀ xs H Q E, sp xs H Q E → xs.length = ps.length
  go : ∀ (A : Around) (out : List Env) (s : Shared) (H : Hp) (args : Args) (us : List Value) (xs : List V) (Q : VK) (E : XK),
    A.guards = some [] → Room k A → Env0 P w K mg base A out s H → BindsTo s fd args (ps.zip us) → Vals xs us → sp xs H Q E →
    codeAny (model P w) A (.call (.ref f) args) (CR CX out P w H s Q E) s

theorem FnG.ofOk {P w K mg base CX k f fd ps sp} (F : FnOk P w K mg base CX k f fd ps sp) : FnG P w K mg base CX k f fd ps sp :=
  ⟨F.len, fun A out s H args us xs Q E _ => F.run A out s H args us xs Q E⟩
theorem FnG.mono {P w K mg base CX j k f fd ps sp} (F : FnG P w K mg base CX j f fd ps sp) (h : j ≤ k) : FnG P w K mg base CX k f fd ps sp :=
  ⟨F.len, fun A out s H args us xs Q E hg hr => F.go A out s H args us xs Q E hg (hr.mono h)⟩

section
variable {X : Cx} {CX : CXT} {k : Nat} {f : Addr} {fd : FuncData} {ps : List Str} {sp : Sp} {dvs : List V} {ds : List Value} {E : XK}
theorem runG {pins : List (Addr × Obj)} {σ : L2.St} {H : Hp} {s : Shared} {Q : VK} {us : List Value} {xs : List V}
    (F : FnG X.prog X.w X.K X.mg X.base CX k f fd ps sp) (hgd : X.A.guards = some []) (hr : Room k X.A)
    (hb : Binds X.K fd ps ds) (hd : Vals dvs ds) (hx : Passes CX X E) (I : Inv X pins σ H s) (r : Vals xs us) (h : sp (xs ++ dvs) H Q E) :
    wpAny (model X.prog X.w) X.A (call (.ref f) us) (EP X pins σ Q) X.xe s := by
  have both : Vals (xs ++ dvs) (us ++ ds) := r.append hd
  have sz : (us ++ ds).length = ps.length := both.length.symm.trans (F.len _ _ _ _ h)
  have body := F.go X.A X.stack s H ⟨us, []⟩ (us ++ ds) (xs ++ dvs) Q E hgd hr I.env0 (hb s us I.kIn sz) both h
  refine wpAny_call (codeAny_mono body fun res t hq => ?_)
  match res, hq with
  | .error e, hq => exact hx pins σ H s e t I hq
  | .ok (.ret u), hq => exact I.after hq
  | .ok .next, hq => exact hq.elim
  | .ok .brk, hq => exact hq.elim
  | .ok .cont, hq => exact hq.elim

theorem pe_g {x : Str} {p pos : Pos} {e : Expr} {es : List Expr} {t : TA} (F : FnG X.prog X.w X.K X.mg X.base CX k f fd ps sp)
    (hgd : X.A.guards = some []) (hr : Room k X.A) (hg : Gl X x) (hm : X.mg x = some (.ref f)) (hk : PySem.W.keepIn X.K (.ref f) = true)
    (hb : Binds X.K fd ps ds) (hd : Vals dvs ds) (hx : Passes CX X E) (ha : PA X (e :: es) t)
    (hdb : (x == ("__debug__" : Str)) = false := by decide)
    (he : starEach (e :: es) X.env = (false, eval e X.env) :: starEach es X.env := by rfl)
    (hpl : (backTo pos (starEach es X.env)).any (·.1) = false := by rfl) :
    PE X (.Call (.Name x p) (e :: es) [] pos) (tCall sp dvs E t) :=
  ⟨fun pins s σ H Q I h => wpAny_Call_Name_kw (ld_glob I hg hm
    (PySem.W.callWith_K (h₀ := X.base) I.ok.mod.kin hk
      (thn (ha.run pos pins s σ H _ I h) fun us s1 ⟨xs, H1, I1, r, q⟩ => ⟨I1.kIn, runG F hgd hr hb hd hx I1 r q⟩) he hpl) hdb)⟩
theorem pe_g0 {x : Str} {p pos : Pos} (F : FnG X.prog X.w X.K X.mg X.base CX k f fd ps sp)
    (hgd : X.A.guards = some []) (hr : Room k X.A) (hg : Gl X x) (hm : X.mg x = some (.ref f)) (hk : PySem.W.keepIn X.K (.ref f) = true)
    (hb : Binds X.K fd ps ds) (hd : Vals dvs ds) (hx : Passes CX X E) (hdb : (x == ("__debug__" : Str)) = false := by decide) :
    PE X (.Call (.Name x p) [] [] pos) (tCall sp dvs E tNil) :=
  ⟨fun pins s σ H Q I h => wpAny_Call_Name_kw (ld_glob I hg hm (PySem.W.callWith_K0 I.kIn hk (runG (us := []) F hgd hr hb hd hx I .nil h)) hdb)⟩
end

/-- a def by its body, guards known -/
theorem okG {P : Program} {w : World} {K : PySem.W.Frag} {mg : Str → Option Value} {base : Heap} {x qual : Str} {st : Stmt} {f : Addr} {fd : FuncData}
    {N ps : List Str} {k : Nat} {sp : Sp} (F : Fun K x qual st f fd) (S : FnScope N ps (defScope st)) (len : ∀ xs H Q E, sp xs H Q E → xs.length = ps.length)
    (hbody : ∀ (cdv : Value) (A : Around) (out : List Env) (s : Shared) (H : Hp) (xs : List V) (Q : VK) (E : XK), A.guards = some [] →
      Room k (A.deeper (envOfC qual (defScope st) s.heap.objs.size f cdv)) → sp xs H Q E →
      ∃ t, PSs (cxOf CX0 P w K mg base N qual (defScope st) f cdv A out s H E).nox (defBody st) t ∧
        t { nx := fun _ H' => Q .non H', rt := Q } (start N xs) H) :
    FnG P w K mg base CX0 (k + 1) f fd ps sp := by
  obtain ⟨oc, od, kV, doc, pm, an, cdv, ct, osl, rfl, lk, hcd⟩ := F.ex
  constructor
  · exact len
  intro A out s H args us xs Q E gA hr e0 hb r hsp
  have old : ∀ b o, base.get? b = some o → s.heap.get? b = some o := fun b o q => (e0.bs b o q).1
  have KX : K.In s.heap := e0.mod.kin.keeps old
  have lim : s.heap.NoLimit := e0.mod.nolimit.keeps old
  refine codeAny_call_function hr.depth (KX _ _ lk) rfl S.co S.gen rfl (PySem.W.codeRec_of KX hcd) (hb _ _ _ _ ?_)
  refine wpAny_newFunctionEnv_cells S.kind (fun y hy => ?_) fun env he s1 x1 => ?_
  · have q := S.par y.1 (List.of_mem_zip (a := y.1) (b := y.2) hy).1
    exact q.elim .inl fun q => .inr ⟨q, PySem.W.cellsFrom_some _ _ _ (.inl q)⟩
  · subst he
    refine ⟨lim.keeps x1.toInCall.keep, codeAny_func ?_⟩
    obtain ⟨t, ht, hq⟩ := hbody cdv A out s H xs Q E gA (hr.deeper _) hsp
    have I := inv_start (CX := CX0) (P := P) (w := w) (K := K) (mg := mg) (base := base) (N := N) (ps := ps) (E := E) S hr.hd e0 (len _ _ _ _ hsp) r x1
    refine wpAny_mono (ht.nox.run [] s1 (start N xs) H _ I hq) (fun fl s2 hs => ?_) fun _ _ z => z
    match fl, hs with
    | .ret u, ⟨v, σ', H', J, rv, q⟩ => exact ⟨v, H', J.os, J.bare, J.base, J.hok, rv, q⟩
    | .next, ⟨σ', H', J, q⟩ => exact ⟨V.non, H', J.os, J.bare, J.base, J.hok, rfl, q⟩
    | .brk, ⟨_, _, _, q⟩ => exact q.elim
    | .cont, ⟨_, _, _, q⟩ => exact q.elim

/-! ## the end of a row -/
theorem endG {l : PySem.W.OpenLaw} {n k : Nat} {q : Program} {loose : List Str} {XP : (Str → Option Value) → Heap → Prop} {YP : World → Heap → Prop} {d : DefRec}
    {K : Params → PySem.W.Frag} {sp : PySem.W.Frag → Sp} {x : Str}
    (hn : l.most = some n) (hn2 : n ≤ sizeLine) (hdf : d.params.defaults = []) (hr : Room k callerA)
    (hY : ∀ (w : World) (h : Heap), YP w h → (K w.params).In h)
    (F : ∀ (w : World) (mg : Str → Option Value) (fa : Addr) (h : Heap), (K w.params).In h → h.Ns mainGlobals mg → mg d.name = some (.ref fa) →
      ∃ fd : FuncData, (∀ (s : Shared) (u : Value), BindsTo s fd ⟨[u], []⟩ [(x, u)]) ∧
        ∀ base : Heap, (K w.params).In base → base.Ns mainGlobals mg → FnG l.prog w (K w.params) mg base CX0 k fa fd [x] (sp (K w.params)))
    (hsp : ∀ (K : PySem.W.Frag) (H : Hp) (a : Addr) (ns : List Int), ns.length ≤ n → SqL K H a (ns.map V.int) →
      sp K [.ref a] H (fun v _ => v = .bl true) fun _ _ _ => False) :
    PySem.W.WalkO q loose XP YP l.row.toRowW d [] (fun f vs => PySem.call f vs) := by
  refine Att.attach_call hn hdf fun w s0 s1 mg mb fa o pm cd doc a vs ns gr Y ho hd hcd hmg ha hi hl hgn => ?_
  have KX := hY w _ Y
  obtain ⟨fd, hbind, F⟩ := F w mg fa _ KX gr.T.g hmg
  have rv := vals_ints hi
  have lenV := hi.length
  have nsz : ns.length ≤ sizeLine := Nat.le_trans hl hn2
  -- the tracked heap T: nothing, or the script alone
  have main : ∀ T : Hp, (∀ b, T b = none ∨ ∃ ob xs, T b = some (.frz ob (.lst xs))) → SqL (K w.params) T a (ns.map V.int) → HOk l.prog w T s1.heap →
      (∀ b, T b ≠ none → b = a) → (T a ≠ none → (K w.params).lookup a = none) →
      codeAny (model l.prog w) callerA (.call (.ref fa) ⟨[.ref a], []⟩)
        (fun r t => r = .ok (.ret (.bool true)) ∧ OldK s1.heap t.heap ∧ t.os = s1.os ∧ AllBare t.gens) s1 := by
    intro T only hS hok only_a notK
    have keepD : ∀ {b : Addr} {ob : Obj}, s1.heap.get? b = some ob → (∃ es ep, ob.data = .dict es ep) → (hidT s1.heap T).get? b = some ob := by
      intro b ob e ⟨es, ep, ed⟩
      refine hidT_get e ?_
      match q : T b with
      | none => rfl
      | some u =>
        have hb : b = a := only_a b (by rw [q]; exact Option.some_ne_none _)
        subst hb
        rw [ha] at e
        cases e
        cases (show Data.seq vs.toArray _ = Data.dict es ep from ed)
    have nsT : ∀ {b : Addr} {m : Str → Option Value}, s1.heap.Ns b m → (hidT s1.heap T).Ns b m := by
      rintro b m ⟨ob, es, ep, e, ed, r⟩
      exact ⟨ob, es, ep, keepD e ⟨es, ep, ed⟩, ed, r⟩
    have inT : (K w.params).In (hidT s1.heap T) := by
      intro b ob e
      refine hidT_get (KX b ob e) ?_
      match q : T b with
      | none => rfl
      | some u =>
        have hb : b = a := only_a b (by rw [q]; exact Option.some_ne_none _)
        subst hb
        rw [notK (by rw [q]; exact Option.some_ne_none _)] at e
        cases e
    have nolim : (hidT s1.heap T).NoLimit := by
      obtain ⟨mc, h1, h2⟩ := gr.T.nolimit
      exact ⟨mc, nsT h1, h2⟩
    have md : Mod (K w.params) mg (hidT s1.heap T) := ⟨inT, nsT gr.T.g, ⟨mb, nsT gr.T.b, gr.T.builtins⟩, nolim⟩
    have e0 : Env0 l.prog w (K w.params) mg (hidT s1.heap T) callerA [] s1 T := by
      refine ⟨rfl, md, fun b ob e => of_hidT e, Nat.le_of_eq (hidT_size _ _), trivial, fun b hb => ?_, hok, .of_eq hgn⟩
      cases (show b ∈ ([] : List Addr) from hb)
    have run := (F _ inT (nsT gr.T.g)).go callerA [] s1 T ⟨[.ref a], []⟩ [.ref a] [.ref a] _ _ rfl hr e0 (hbind s1 (.ref a)) (.cons rfl .nil) (hsp (K w.params) T a ns hl hS)
    refine codeAny_mono run fun res t hq => ?_
    match res, hq with
    | .error e, hq => exact hq.elim
    | .ok .next, hq => exact hq.elim
    | .ok .brk, hq => exact hq.elim
    | .ok .cont, hq => exact hq.elim
    | .ok (.ret u), ⟨v, T', os, bare, un, hok', rr, qq⟩ =>
      obtain rfl : v = .bl true := qq
      obtain rfl : u = Value.bool true := rr
      refine ⟨rfl, OldK.of_keep fun b ob e => ?_, os, bare⟩
      match q : T b with
      | none => exact un.keep b ob e q (fun z => nomatch (show b ∈ ([] : List Addr) from z)) (fun z => nomatch z)
      | some u =>
        rcases only b with z | ⟨fo, xs, z⟩
        · rw [q] at z
          cases z
        · obtain ⟨e1, _⟩ := hok b _ z
          obtain ⟨e2, _⟩ := hok' b _ (un.frzs b fo _ z)
          rw [e] at e1
          cases e1
          exact e2
  match hk : (K w.params).lookup a with
  | some ob =>
    have e := KX a ob hk
    rw [ha] at e
    cases e
    refine main (fun _ => none) (fun _ => .inl rfl) (.inr ⟨_, vs.toArray, _, hk, rfl, rfl, rfl, ?_, ?_⟩) (fun b u z => nomatch (show (none : Option HO) = some u from z)) (fun b z => absurd rfl z) (fun z => absurd rfl z)
    · rw [List.size_toArray, lenV]
      exact nsz
    · simpa using rv
  | none =>
    have atA : ∀ b, b = a → (if b = a then some (HO.frz { cls := .type "list", data := .seq vs.toArray } (.lst (ns.map V.int))) else none) = some (HO.frz { cls := .type "list", data := .seq vs.toArray } (.lst (ns.map V.int))) := fun b hb => if_pos hb
    have offA : ∀ b, b ≠ a → (if b = a then some (HO.frz { cls := .type "list", data := .seq vs.toArray } (.lst (ns.map V.int))) else none) = none := fun b hb => if_neg hb
    refine main (fun b => if b = a then some (.frz { cls := .type "list", data := .seq vs.toArray } (.lst (ns.map V.int))) else none) (fun b => ?_) (.inl (.inr ⟨{ cls := .type "list", data := .seq vs.toArray }, atA a rfl⟩)) (fun b u z => ?_) (fun b z => ?_) fun _ => hk
    · by_cases hb : b = a
      · exact .inr ⟨_, _, atA b hb⟩
      · exact .inl (offA b hb)
    · by_cases hb : b = a
      · have z2 := (atA b hb).symm.trans z
        cases z2
        subst hb
        exact ⟨ha, by rw [List.length_map]; exact nsz, vs, _, rv, ha⟩
      · have z2 := (offA b hb).symm.trans z
        cases z2
    · by_cases hb : b = a
      · exact hb
      · exact absurd (offA b hb) z

/-! ## repr of data -/
mutual
/-- data whose text is written: no dict, numbers and texts of bounded size -/
def nice : PyData → Bool
  | .none | .bool _ => true
  | .int i => decide (i.natAbs.log2 < 1200)
  | .str x => x.cps.toList.all fun c => decide (c < 16 ^ 8)
  | .list xs | .tuple xs => niceAll xs
  | .dict _ => false
def niceAll : List PyData → Bool
  | [] => true
  | x :: xs => nice x && niceAll xs
end
structure Shw (d : PyData) : Prop where
  noDict : d.hasDict = false
  able : d.showable = true
  deep : d.depth ≤ 60
  fits : d.shown.length ≤ sizeLine
mutual
theorem nice_facts : ∀ d : PyData, nice d = true → d.hasDict = false ∧ d.showable = true ∧ d.leavesShort 1201 = true
  | .none, _ => by simp [PyData.hasDict, PyData.showable, PyData.leavesShort]
  | .bool _, _ => by simp [PyData.hasDict, PyData.showable, PyData.leavesShort]
  | .int i, h => by
    have h2 : i.natAbs.log2 < 1200 := by simpa [nice] using h
    have h3 := int_text_length_le (a := i) (by decide) h2
    have h4 : (PyData.shown (.int i)).length ≤ 1201 := by
      rw [PyData.shown_int]
      rw [PySem.ofString_length]
      exact h3
    refine ⟨by simp [PyData.hasDict], ?_, ?_⟩
    · simp only [PyData.showable]
      exact decide_eq_true (by omega)
    · simp only [PyData.leavesShort]
      exact decide_eq_true h4
  | .str x, h => by
    refine ⟨by simp [PyData.hasDict], by simp [PyData.showable], ?_⟩
    simpa only [PyData.leavesShort, nice] using h
  | .list xs, h => by
    have q := nice_factsAll xs (by simpa only [nice] using h)
    exact ⟨by simpa only [PyData.hasDict] using q.1, by simpa only [PyData.showable] using q.2.1, by simpa only [PyData.leavesShort] using q.2.2⟩
  | .tuple xs, h => by
    have q := nice_factsAll xs (by simpa only [nice] using h)
    exact ⟨by simpa only [PyData.hasDict] using q.1, by simpa only [PyData.showable] using q.2.1, by simpa only [PyData.leavesShort] using q.2.2⟩
  | .dict _, h => by simp [nice] at h
theorem nice_factsAll : ∀ ds : List PyData, niceAll ds = true → PyData.hasDictAll ds = false ∧ PyData.showableAll ds = true ∧ PyData.leavesShortAll 1201 ds = true
  | [], _ => by simp [PyData.hasDictAll, PyData.showableAll, PyData.leavesShortAll]
  | x :: xs, h => by
    have h' : nice x = true ∧ niceAll xs = true := by simpa [niceAll] using h
    obtain ⟨a1, a2, a3⟩ := nice_facts x h'.1
    obtain ⟨b1, b2, b3⟩ := nice_factsAll xs h'.2
    simp only [PyData.hasDictAll, PyData.showableAll, PyData.leavesShortAll, a1, a2, a3, b1, b2, b3, Bool.or_self, Bool.and_self, and_self]
end
theorem shw {d : PyData} (h : nice d = true) (hd : d.depth ≤ 60) (hb : d.bulk ≤ 10000) : Shw d := by
  obtain ⟨a1, a2, a3⟩ := nice_facts d h
  refine ⟨a1, a2, hd, ?_⟩
  have q := PyData.shown_le_bulk 1201 (by decide) d a3
  have e2 : 16777216 ≤ sizeLine := by decide
  omega
section
variable {X : Cx}
def rRepr (K : PySem.W.Frag) : List V → Hp → VK → Prop := fun xs H Q => ∃ (x : V) (d : PyData), xs = [x] ∧ Dp K H x d ∧ Shw d ∧ Q (.str d.shown) H
theorem call_repr (hgd : X.A.guards = some []) (hu : X.A.units + 64 < cLine) : CallR X (.builtin "repr") (rRepr X.K) := by
  intro pins s σ H xs us Q I r h
  obtain ⟨x, d, rfl, hd, ⟨hn, hs, hp, hz⟩, q⟩ := h
  obtain ⟨u, rfl, ru⟩ := vals1 r
  obtain ⟨as, rd⟩ := Dp.reads I d x u hd ru
  have fin : ∀ h' t tk, (∀ b o, s.heap.get? b = some o → h'.get? b = some o) → EP X pins σ Q (.str d.shown t) { s with heap := h', toks := tk } :=
    fun h' t tk kp => ⟨.str d.shown, H, I.kept kp, ⟨t, rfl⟩, q⟩
  cases hd with
  | lst hl ha =>
    cases (show u = Value.ref _ from ru)
    exact repr_of_reads' rd hs (PyData.noDict_hsm hn) hgd (by omega) (fun _ _ e => e) fin hz
  | tup hl ha =>
    cases (show u = Value.ref _ from ru)
    exact repr_of_reads' rd hs (PyData.noDict_hsm hn) hgd (by omega) (fun _ _ e => e) fin hz
  | int i =>
    obtain ⟨t, rfl⟩ := (show ∃ t, u = Value.int i t from ru)
    have e : (PyData.int i).shown = ((toString i : String) : Str) := PyData.shown_int i
    rw [e] at q
    exact PySem.P.repr_of_int (by simpa [PyData.showable] using hs) ⟨.str _, H, I.tok _, ⟨_, rfl⟩, q⟩
  | non =>
    cases (show u = Value.none from ru)
    rw [PyData.shown_none] at q
    exact PySem.P.repr_of_none ⟨.str _, H, I.tok _, ⟨_, rfl⟩, q⟩
  | bl b =>
    cases (show u = Value.bool b from ru)
    rw [PyData.shown_bool] at q
    refine PySem.P.repr_of_bool ⟨.str _, H, I.tok _, ⟨_, rfl⟩, ?_⟩
    cases b <;> exact q
  | str x =>
    obtain ⟨t, rfl⟩ := (show ∃ t, u = Value.str x t from ru)
    rw [PyData.shown_str] at q hz
    exact PySem.P.repr_of_str ⟨.str _, H, I.tok _, ⟨_, rfl⟩, q⟩ hz
end
/-! ## Defs of the text as constants -/
structure DefAt (K : PySem.W.Frag) (mg : Str → Option Value) (x : Str) (st : Stmt) (ps : List Str) : Prop where
  ex : ∃ f fd, Fun K x x st f fd ∧ mg x = some (.ref f) ∧ ∀ us : List Value, us.length = ps.length → bindArgs fd ⟨us, []⟩ = pure (ps.zip us)
theorem defAt {K : PySem.W.Frag} {h : Heap} {mg : Str → Option Value} {x : Str} {st : Stmt} {ps : List Str} {f : Addr} {oc : Value} {od an : Option Addr} {osl : Array (Option Value)}
    {kV doc pm cdv ct : Value} (KX : K.In h) (gl : h.Ns mainGlobals mg)
    (hb : ∀ us : List Value, us.length = ps.length → bindArgs (PySem.W.fnOf x x (defArgs st) (defBody st) (defScope st) .none kV doc pm an cdv ct) ⟨us, []⟩ = pure (ps.zip us))
    (a : PySem.W.nsIn K mainGlobals x = some (some (.ref f)))
    (l : K.lookup f = some ⟨oc, od, .func (PySem.W.fnOf x x (defArgs st) (defBody st) (defScope st) .none kV doc pm an cdv ct), osl⟩)
    (c : PySem.W.codeIn K cdv x = true) (k : PySem.W.keepIn K (.ref f) = true) : DefAt K mg x st ps :=
  ⟨f, _, fun_mk l c k, PySem.W.mg_of KX gl a, hb⟩
structure CalG (P : Program) (w : World) (K : PySem.W.Frag) (mg : Str → Option Value) (base : Heap) (k : Nat) (x : Str) (ps : List Str) (sp : Sp) : Prop where
  ex : ∃ f fd, FnG P w K mg base CX0 k f fd ps sp ∧ mg x = some (.ref f) ∧ PySem.W.keepIn K (.ref f) = true ∧ Binds K fd ps []
theorem calOk {P : Program} {w : World} {K : PySem.W.Frag} {mg : Str → Option Value} {base : Heap} {x : Str} {st : Stmt} {N ps : List Str} {k : Nat} {sp : Sp}
    (D : DefAt K mg x st ps) (S : FnScope N ps (defScope st)) (len : ∀ xs H Q E, sp xs H Q E → xs.length = ps.length)
    (hbody : ∀ (f : Addr) (cdv : Value) (A : Around) (out : List Env) (s : Shared) (H : Hp) (xs : List V) (Q : VK) (E : XK), A.guards = some [] →
      Room k (A.deeper (envOfC x (defScope st) s.heap.objs.size f cdv)) → sp xs H Q E →
      ∃ t, PSs (cxOf CX0 P w K mg base N x (defScope st) f cdv A out s H E).nox (defBody st) t ∧
        t { nx := fun _ H' => Q .non H', rt := Q } (start N xs) H) : CalG P w K mg base (k + 1) x ps sp := by
  obtain ⟨f, fd, F, m, b⟩ := D.ex
  exact ⟨f, fd, okG F S len (hbody f), m, F.kp, Binds.all b⟩
section
variable {X : Cx} {k j : Nat} {ps : List Str} {sp : Sp} {x : Str} {p pos : Pos} {e : Expr} {es : List Expr} {t : TA}
theorem pe_k (c : CalG X.prog X.w X.K X.mg X.base k x ps sp) (hgd : X.A.guards = some []) (hr : Room j X.A) (hk : k ≤ j) (hg : Gl X x) (ha : PA X (e :: es) t)
    (hdb : (x == ("__debug__" : Str)) = false := by decide)
    (he : starEach (e :: es) X.env = (false, eval e X.env) :: starEach es X.env := by rfl)
    (hpl : (backTo pos (starEach es X.env)).any (·.1) = false := by rfl) :
    PE X (.Call (.Name x p) (e :: es) [] pos) (tCall sp [] E0 t) := by
  obtain ⟨f, fd, F, m, kp, b⟩ := c.ex
  exact pe_g F hgd (hr.mono hk) hg m kp b .nil pass0 ha hdb he hpl
theorem pe_k0 (c : CalG X.prog X.w X.K X.mg X.base k x ps sp) (hgd : X.A.guards = some []) (hr : Room j X.A) (hk : k ≤ j) (hg : Gl X x)
    (hdb : (x == ("__debug__" : Str)) = false := by decide) : PE X (.Call (.Name x p) [] [] pos) (tCall sp [] E0 tNil) := by
  obtain ⟨f, fd, F, m, kp, b⟩ := c.ex
  exact pe_g0 F hgd (hr.mono hk) hg m kp b .nil pass0 hdb
end
/-- the law's own def, at the address that the row names -/
theorem lawOk {P : Program} {w : World} {K : PySem.W.Frag} {mg : Str → Option Value} {x y : Str} {st : Stmt} {N : List Str} {k : Nat} {sp : Sp} {fa : Addr}
    (hf : mg x = some (.ref fa)) (D : DefAt K mg x st [y]) (S : FnScope N [y] (defScope st)) (len : ∀ xs H Q E, sp xs H Q E → xs.length = [y].length)
    (hbody : ∀ base : Heap, K.In base → base.Ns mainGlobals mg → ∀ (f : Addr) (cdv : Value) (A : Around) (out : List Env) (s : Shared) (H : Hp) (xs : List V) (Q : VK) (E : XK), A.guards = some [] →
      Room k (A.deeper (envOfC x (defScope st) s.heap.objs.size f cdv)) → sp xs H Q E →
      ∃ t, PSs (cxOf CX0 P w K mg base N x (defScope st) f cdv A out s H E).nox (defBody st) t ∧
        t { nx := fun _ H' => Q .non H', rt := Q } (start N xs) H) :
    ∃ fd : FuncData, (∀ (s : Shared) (u : Value), BindsTo s fd ⟨[u], []⟩ [(y, u)]) ∧
      ∀ base : Heap, K.In base → base.Ns mainGlobals mg → FnG P w K mg base CX0 (k + 1) fa fd [y] sp := by
  obtain ⟨f, fd, F, m, b⟩ := D.ex
  obtain rfl : f = fa := by
    rw [m] at hf
    cases hf
    rfl
  exact ⟨fd, fun s u => .of_eq (b [u] rfl), fun base h1 h2 => okG F S len (hbody base h1 h2 f)⟩

section
variable {X : Cx} {x : Str} {pos : Pos}
theorem pe_gv {v : V} (hg : Gl X x) (h : ∃ u, X.mg x = some u ∧ RelV v u) (hd : (x == ("__debug__" : Str)) = false := by decide) : PE X (.Name x pos) (tC v) :=
  let ⟨_, hm, r⟩ := h
  pe_glob hg hm r hd
theorem pe_ty (n : String) (hg : Gl X x) (hm : X.mg x = none) (hv : bootBuiltins x = some (.type n)) (hn : x ≠ "__name__" := by decide) (hd : (x == ("__debug__" : Str)) = false := by decide) : PE X (.Name x pos) (tC (.ty n)) :=
  pe_bltn hg hm hv rfl hn hd
end
/-! ## Heaps: what is new, what is rolled -/
theorem same_new {H : Hp} {p : Addr} {o : HO} (h : H p = none) : Same H (upd H p o) := fun b u e => by
  rw [upd_ne (ne_of_none e h)]
  exact e
mutual
theorem Dp.grow {K : PySem.W.Frag} {H H' : Hp} (s : Same H H') : ∀ {x : V} {d : PyData}, Dp K H x d → Dp K H' x d
  | _, _, .non => .non
  | _, _, .bl b => .bl b
  | _, _, .int i => .int i
  | _, _, .str x => .str x
  | _, _, .lst h a => .lst (s.seq h) (DpAll.grow s a)
  | _, _, .tup h a => .tup (by
      rcases h with (h | ⟨o, h⟩) | h
      · exact .inl (.inl (s _ _ h))
      · exact .inl (.inr ⟨o, s _ _ h⟩)
      · exact .inr h) (DpAll.grow s a)
theorem DpAll.grow {K : PySem.W.Frag} {H H' : Hp} (s : Same H H') : ∀ {xs : List V} {ds : List PyData}, DpAll K H xs ds → DpAll K H' xs ds
  | _, _, .nil => .nil
  | _, _, .cons a b => .cons (Dp.grow s a) (DpAll.grow s b)
end
/-- the heap without what stands at d -/
def hide (d : Addr) (H : Hp) : Hp := fun b => if b = d then none else H b
theorem hide_ne {d b : Addr} {H : Hp} (h : b ≠ d) : hide d H b = H b := if_neg h
theorem hide_at {d : Addr} {H : Hp} : hide d H d = none := if_pos rfl
theorem hide_le {d : Addr} {H : Hp} : Same (hide d H) H := fun b o e => by
  by_cases h : b = d
  · subst h
    rw [hide_at] at e
    cases e
  · rw [hide_ne h] at e
    exact e
/-- the dice at d: three numbers -/
def DiceAt (H : Hp) (d : Addr) : Prop := ∃ l s c : Int, H d = some (.lst [.int l, .int s, .int c])
/-- from H to H': the dice at d may have been rolled, what else stood stands -/
structure Mv (d : Addr) (H H' : Hp) : Prop where
  same : Same (hide d H) (hide d H')
  dice : DiceAt H' d
theorem Mv.refl {d : Addr} {H : Hp} (h : DiceAt H d) : Mv d H H := ⟨Same.refl _, h⟩
theorem Mv.trans {d : Addr} {H H1 H2 : Hp} (a : Mv d H H1) (b : Mv d H1 H2) : Mv d H H2 := ⟨a.same.trans b.same, b.dice⟩
theorem Mv.get {d : Addr} {H H' : Hp} (a : Mv d H H') {b : Addr} {o : HO} (n : b ≠ d) (h : H b = some o) : H' b = some o := by
  have := a.same b o (by rw [hide_ne n]; exact h)
  rw [hide_ne n] at this
  exact this
theorem Mv.free {d : Addr} {H H' : Hp} (a : Mv d H H') {p : Addr} (h : H' p = none) : H p = none := by
  by_cases e : p = d
  · subst e
    obtain ⟨l, s, c, q⟩ := a.dice
    rw [q] at h
    cases h
  · match q : H p with
    | none => rfl
    | some o =>
      rw [a.get e q] at h
      cases h
theorem DiceAt.ne {d p : Addr} {H : Hp} (h : DiceAt H d) (n : H p = none) : p ≠ d := fun e => by
  obtain ⟨l, s, c, q⟩ := h
  rw [e, q] at n
  cases n
theorem hide_new {d p : Addr} {H : Hp} {o : HO} (n : p ≠ d) : hide d (upd H p o) = upd (hide d H) p o := by
  funext b
  by_cases h1 : b = d
  · subst h1
    rw [hide_at, upd_ne n.symm, hide_at]
  · rw [hide_ne h1]
    by_cases h2 : b = p
    · subst h2
      rw [upd_same, upd_same]
    · rw [upd_ne h2, upd_ne h2, hide_ne h1]
theorem Mv.new {d p : Addr} {H H' : Hp} {o : HO} (a : Mv d H H') (n : H' p = none) : Mv d H (upd H' p o) := by
  have ne := a.dice.ne n
  refine ⟨fun b u e => ?_, ?_⟩
  · rw [hide_new ne]
    refine same_new ?_ b u (a.same b u e)
    rw [hide_ne ne]
    exact n
  · obtain ⟨l, s, c, q⟩ := a.dice
    exact ⟨l, s, c, by rw [upd_ne ne.symm]; exact q⟩
/-- an own list (new since H) changed -/
theorem Mv.set {d p : Addr} {H H' : Hp} {o : HO} (a : Mv d H H') (n : H p = none) (ne : p ≠ d) : Mv d H (upd H' p o) := by
  refine ⟨fun b u e => ?_, ?_⟩
  · rw [hide_new ne]
    have nb : b ≠ p := fun q => by
      rw [q, hide_ne ne, n] at e
      cases e
    rw [upd_ne nb]
    exact a.same b u e
  · obtain ⟨l, s, c, q⟩ := a.dice
    exact ⟨l, s, c, by rw [upd_ne ne.symm]; exact q⟩
theorem same_new2 {H : Hp} {p : Addr} {o u : HO} (h : H p = none) : Same H (upd (upd H p o) p u) := by
  rw [upd_upd]
  exact same_new h
theorem Mv.new2 {d p : Addr} {H H' : Hp} {o u : HO} (a : Mv d H H') (n : H' p = none) : Mv d H (upd (upd H' p o) p u) := by
  rw [upd_upd]
  exact a.new n
theorem Mv.rolled {d : Addr} {H H' : Hp} {l s c : Int} (a : Mv d H H') : Mv d H (upd H' d (.lst [.int l, .int s, .int c])) := by
  refine ⟨fun b u e => ?_, l, s, c, upd_same⟩
  have q := a.same b u e
  by_cases h : b = d
  · subst h
    rw [hide_at] at q
    cases q
  · rw [hide_ne h] at q ⊢
    rw [upd_ne h]
    exact q
theorem Mv.sql {K : PySem.W.Frag} {d a : Addr} {H H' : Hp} {xs : List V} (m : Mv d H H') (n : a ≠ d) (h : SqL K H a xs) : SqL K H' a xs := by
  rcases h with (h | ⟨o, h⟩) | h
  · exact .inl (.inl (m.get n h))
  · exact .inl (.inr ⟨o, m.get n h⟩)
  · exact .inr h
theorem Mv.dp {K : PySem.W.Frag} {d : Addr} {H H' : Hp} {x : V} {dat : PyData} (m : Mv d H H') (h : Dp K (hide d H) x dat) : Dp K (hide d H') x dat := Dp.grow m.same h
theorem Dp.seen {K : PySem.W.Frag} {d : Addr} {H : Hp} {x : V} {dat : PyData} (h : Dp K (hide d H) x dat) : Dp K H x dat := Dp.grow hide_le h

theorem mul60 : CMulW (10 ^ Int.toNat 60) (10 ^ Int.toNat 60) := by
  unfold CMulW
  decide +kernel
theorem pos60 : (0 : Int) < 10 ^ Int.toNat 60 * 10 ^ Int.toNat 60 := by decide +kernel
theorem mul45 : CMulW (10 ^ Int.toNat 45) (10 ^ Int.toNat 45) := by
  unfold CMulW
  decide +kernel
/-! ## the promises of the dice -/
def spDice (K : PySem.W.Frag) : Sp := fun vs H Q _ => ∃ (a : Addr) (ns : List Int) (i : Nat), vs = [.ref a, .int (i : Int)] ∧ SqL K H a (ns.map V.int) ∧ ns.length ≤ 1000 ∧
  ∀ (p : Addr) (l s c : Int), H p = none → Q (.ref p) (upd H p (.lst [.int l, .int s, .int c]))
def spRoll : Sp := fun vs H Q _ => ∃ (d : Addr) (t : Int), vs = [.ref d, .int t] ∧ DiceAt H d ∧ 0 < t ∧ t.natAbs.log2 < 9000 ∧
  ∀ (r : Int) (H' : Hp), 0 ≤ r → r < t → Mv d H H' → (∀ b, H b = none → H' b = none) → Q (.int r) H'
def spPick (K : PySem.W.Frag) : Sp := fun vs H Q _ => ∃ (d a : Addr) (xs : List V), vs = [.ref d, .ref a] ∧ DiceAt H d ∧ SqL K H a xs ∧ a ≠ d ∧ 0 < xs.length ∧ xs.length ≤ 1000 ∧
  ∀ (i : Nat) (x : V) (H' : Hp), xs[i]? = some x → Mv d H H' → (∀ b, H b = none → H' b = none) → Q x H'
theorem DpAll.map {K : PySem.W.Frag} {H : Hp} {α : Type} (f : α → V) (g : α → PyData) : ∀ (xs : List α), (∀ x ∈ xs, Dp K H (f x) (g x)) → DpAll K H (xs.map f) (xs.map g)
  | [], _ => .nil
  | x :: r, h => .cons (h x List.mem_cons_self) (DpAll.map f g r fun y hy => h y (List.mem_cons_of_mem _ hy))
theorem canAll {α : Type} (g : α → PyData) : ∀ (xs : List α), (∀ x ∈ xs, (g x).canLay0 = true) → PyData.canLayAll0 (xs.map g) = true
  | [], _ => by simp [PyData.canLayAll0]
  | x :: r, h => by
    simp only [List.map_cons, PyData.canLayAll0, h x List.mem_cons_self, canAll g r fun y hy => h y (List.mem_cons_of_mem _ hy), Bool.and_self]
theorem depthAll0 {α : Type} (n : Nat) (g : α → PyData) : ∀ (xs : List α), (∀ x ∈ xs, (g x).depth ≤ n) → PyData.depthAll (xs.map g) ≤ n
  | [], _ => by simp [PyData.depthAll]
  | x :: r, h => by
    have h1 := h x List.mem_cons_self
    have h2 := depthAll0 n g r fun y hy => h y (List.mem_cons_of_mem _ hy)
    simp only [List.map_cons, PyData.depthAll]
    omega

/-! ## readings by statements: what an expression's reading hands on is said in one place -/
section
variable {te : TE} {tt : TT} {i : Nat} {t1 t2 rest : TS} {D : Ends} {σ : L2.St} {H : Hp}
theorem go_nx {t : TS} {r : VK} {b c : L2.St → Hp → Prop} (h : t D σ H) : Ends.nx ⟨t D, r, b, c⟩ σ H := h
theorem a_set (R : V → Hp → Prop) (h : ∀ Q' : VK, (∀ v H', R v H' → Q' v H') → te σ H Q') (k : ∀ v H', R v H' → rest D (σ.set i (some v)) H') :
    tSeq (tAsg te (gName i)) rest D σ H := h _ k
theorem a_set1 (R : V → Hp → Prop) (h : ∀ Q' : VK, (∀ v H', R v H' → Q' v H') → te σ H Q') (k : ∀ v H', R v H' → D.nx (σ.set i (some v)) H') :
    tAsg te (gName i) D σ H := h _ k
theorem a_ret (R : V → Hp → Prop) (h : ∀ Q' : VK, (∀ v H', R v H' → Q' v H') → te σ H Q') (k : ∀ v H', R v H' → D.rt v H') : tRet te D σ H := h _ k
theorem a_if (R : Bool → Hp → Prop) (h : ∀ Q' : Bool → Hp → Prop, (∀ b H', R b H' → Q' b H') → tt σ H Q') (k1 : ∀ H', R true H' → t1 { D with nx := rest D } σ H') (k2 : ∀ H', R false H' → t2 { D with nx := rest D } σ H') :
    tSeq (tIfS tt t1 t2) rest D σ H := h _ fun b H' r => by
  cases b with
  | true => exact iteT (k1 H' r)
  | false => exact iteF (k2 H' r)
theorem a_if1 (R : Bool → Hp → Prop) (h : ∀ Q' : Bool → Hp → Prop, (∀ b H', R b H' → Q' b H') → tt σ H Q') (k1 : ∀ H', R true H' → t1 D σ H') (k2 : ∀ H', R false H' → t2 D σ H') :
    tIfS tt t1 t2 D σ H := h _ fun b H' r => by
  cases b with
  | true => exact iteT (k1 H' r)
  | false => exact iteF (k2 H' r)
end
end G

set_option Elab.async false
set_option linter.all false
set_option maxRecDepth 100000
set_option maxHeartbeats 2000000
namespace G
open PySem PySem.Spec PyProof.Rows L2
/-! ## values as data, dicts among them -/
def keyD : Key → PyData
  | .inl i => .int i
  | .inr z => .str z
mutual
inductive Dx (H : Hp) : V → PyData → Prop
  | non : Dx H .non .none
  | bl (b : Bool) : Dx H (.bl b) (.bool b)
  | int (i : Int) : Dx H (.int i) (.int i)
  | str (x : Str) : Dx H (.str x) (.str x)
  | lst {a : Addr} {xs : List V} {ds : List PyData} : H a = some (.lst xs) → DxAll H xs ds → Dx H (.ref a) (.list ds)
  | tup {a : Addr} {xs : List V} {ds : List PyData} : H a = some (.tup xs) → DxAll H xs ds → Dx H (.ref a) (.tuple ds)
  | dct {a : Addr} {kvs : List (Key × V)} {ps : List (PyData × PyData)} : H a = some (.dK kvs) → DxKv H kvs ps → Dx H (.ref a) (.dict ps)
inductive DxAll (H : Hp) : List V → List PyData → Prop
  | nil : DxAll H [] []
  | cons {v : V} {vs : List V} {d : PyData} {ds : List PyData} : Dx H v d → DxAll H vs ds → DxAll H (v :: vs) (d :: ds)
inductive DxKv (H : Hp) : List (Key × V) → List (PyData × PyData) → Prop
  | nil : DxKv H [] []
  | cons {k : Key} {v : V} {r : List (Key × V)} {d : PyData} {ps : List (PyData × PyData)} : Dx H v d → DxKv H r ps → DxKv H ((k, v) :: r) ((keyD k, d) :: ps)
end
mutual
theorem Dx.grow {H H' : Hp} (s : Same H H') : ∀ {x : V} {d : PyData}, Dx H x d → Dx H' x d
  | _, _, .non => .non
  | _, _, .bl b => .bl b
  | _, _, .int i => .int i
  | _, _, .str x => .str x
  | _, _, .lst h a => .lst (s _ _ h) (DxAll.grow s a)
  | _, _, .tup h a => .tup (s _ _ h) (DxAll.grow s a)
  | _, _, .dct h a => .dct (s _ _ h) (DxKv.grow s a)
theorem DxAll.grow {H H' : Hp} (s : Same H H') : ∀ {xs : List V} {ds : List PyData}, DxAll H xs ds → DxAll H' xs ds
  | _, _, .nil => .nil
  | _, _, .cons a b => .cons (Dx.grow s a) (DxAll.grow s b)
theorem DxKv.grow {H H' : Hp} (s : Same H H') : ∀ {xs : List (Key × V)} {ds : List (PyData × PyData)}, DxKv H xs ds → DxKv H' xs ds
  | _, _, .nil => .nil
  | _, _, .cons a b => .cons (Dx.grow s a) (DxKv.grow s b)
end
mutual
theorem Dx.dp {K : PySem.W.Frag} {H : Hp} : ∀ {x : V} {d : PyData}, Dx H x d → d.hasDict = false → Dp K H x d
  | _, _, .non, _ => .non
  | _, _, .bl b, _ => .bl b
  | _, _, .int i, _ => .int i
  | _, _, .str x, _ => .str x
  | _, _, .lst h a, n => .lst (SqL.of h) (DxAll.dp a (by simpa [PyData.hasDict] using n))
  | _, _, .tup h a, n => .tup (SqT.of h) (DxAll.dp a (by simpa [PyData.hasDict] using n))
  | _, _, .dct h a, n => by simp [PyData.hasDict] at n
theorem DxAll.dp {K : PySem.W.Frag} {H : Hp} : ∀ {xs : List V} {ds : List PyData}, DxAll H xs ds → PyData.hasDictAll ds = false → DpAll K H xs ds
  | _, _, .nil, _ => .nil
  | _, _, .cons a b, n => by
    rw [PyData.hasDictAll, Bool.or_eq_false_iff] at n
    exact .cons (Dx.dp a n.1) (DxAll.dp b n.2)
end
theorem DxAll.len {H : Hp} : ∀ {xs : List V} {ds : List PyData}, DxAll H xs ds → xs.length = ds.length
  | _, _, .nil => rfl
  | _, _, .cons _ b => by rw [List.length_cons, List.length_cons, DxAll.len b]
theorem DxAll.at {H : Hp} : ∀ {xs : List V} {ds : List PyData}, DxAll H xs ds → ∀ (i : Nat) (d : PyData), ds[i]? = some d → ∃ x, xs[i]? = some x ∧ Dx H x d
  | _, _, .nil, _, _, e => by cases e
  | _, _, .cons a b, 0, d, e => by
    cases e
    exact ⟨_, rfl, a⟩
  | _, _, .cons a b, i + 1, d, e => DxAll.at b i d e
theorem DxAll.get {H : Hp} : ∀ {xs : List V} {ds : List PyData}, DxAll H xs ds → ∀ (i : Nat) (x : V), xs[i]? = some x → ∃ d, ds[i]? = some d ∧ Dx H x d
  | _, _, .nil, _, _, e => by cases e
  | _, _, .cons a b, 0, d, e => by
    cases e
    exact ⟨_, rfl, a⟩
  | _, _, .cons a b, i + 1, d, e => DxAll.get b i d e
theorem DxAll.append {H : Hp} : ∀ {xs ys : List V} {ds es : List PyData}, DxAll H xs ds → DxAll H ys es → DxAll H (xs ++ ys) (ds ++ es)
  | _, _, _, _, .nil, h => h
  | _, _, _, _, .cons a b, h => .cons a (DxAll.append b h)
theorem DxAll.take {H : Hp} : ∀ {xs : List V} {ds : List PyData} (n : Nat), DxAll H xs ds → DxAll H (xs.take n) (ds.take n)
  | _, _, 0, _ => .nil
  | _, _, _ + 1, .nil => .nil
  | _, _, n + 1, .cons a b => .cons a (DxAll.take n b)
theorem DxAll.drop {H : Hp} : ∀ {xs : List V} {ds : List PyData} (n : Nat), DxAll H xs ds → DxAll H (xs.drop n) (ds.drop n)
  | _, _, 0, h => h
  | _, _, _ + 1, .nil => .nil
  | _, _, n + 1, .cons a b => DxAll.drop n b
theorem DxAll.rep {H : Hp} {x : V} {d : PyData} (h : Dx H x d) : ∀ n, DxAll H (List.replicate n x) (List.replicate n d)
  | 0 => .nil
  | n + 1 => .cons h (DxAll.rep h n)
def tyName : PyData → String
  | .none => "NoneType" | .bool _ => "bool" | .int _ => "int" | .str _ => "str" | .list _ => "list" | .tuple _ => "tuple" | .dict _ => "dict"
theorem Dx.ty {K : PySem.W.Frag} {H : Hp} {x : V} {d : PyData} (h : Dx H x d) : TyX K H x (.type (tyName d)) := by
  cases h with
  | non => exact .base .non
  | bl b => exact .base (.bl b)
  | int i => exact .base (.int i)
  | str x => exact .base (.str x)
  | lst h _ => exact .base (.lst h)
  | tup h _ => exact .base (.tup h)
  | dct h _ => exact .base (.dK h)
theorem Same.put {H H' : Hp} {p : Addr} {o : HO} (s : Same H H') (n : H p = none) : Same H (upd H' p o) := fun b u e => by
  rw [upd_ne (ne_of_none e n)]
  exact s b u e
/-- a judge: what it says hangs on the value's data alone -/
def spJ (f : PyData → Bool) : Sp := fun vs H Q _ => ∃ (x : V) (d : PyData), vs = [x] ∧ Dx H x d ∧ ∀ H', Same H H' → Q (.bl (f d)) H'
theorem Mv.ofSame {d : Addr} {H H1 H2 : Hp} (a : Mv d H H1) (s : Same H1 H2) : Mv d H H2 := by
  refine ⟨fun b u e => ?_, ?_⟩
  · have q := a.same b u e
    by_cases h : b = d
    · subst h
      rw [hide_at] at q
      cases q
    · rw [hide_ne h] at q ⊢
      exact s _ _ q
  · obtain ⟨l, t, c, q⟩ := a.dice
    exact ⟨l, t, c, s _ _ q⟩
theorem Mv.dx {d : Addr} {H H' : Hp} {x : V} {dat : PyData} (m : Mv d H H') (h : Dx (hide d H) x dat) : Dx (hide d H') x dat := Dx.grow m.same h
theorem Dx.seen {d : Addr} {H : Hp} {x : V} {dat : PyData} (h : Dx (hide d H) x dat) : Dx H x dat := Dx.grow hide_le h

/-! ## the program's judges of forms and rows, as functions of data -/
abbrev BIG : Int := 1000000000000000000000000000000000000000000000000000000000000
def smallB (i : Int) : Bool := decide (-BIG < i) && decide (i < BIG)
def intB : PyData → Bool
  | .int i => smallB i
  | _ => false
def pairB : PyData → Bool
  | .tuple [a, b] => intB a && intB b
  | _ => false
def sideB : PyData → Bool
  | .int i => decide (0 ≤ i) && decide (i ≤ 7)
  | _ => false
def formB : PyData → Bool
  | .tuple [a, b] => sideB a && sideB b
  | _ => false
def formsB : PyData → Bool
  | .tuple ds => decide (ds.length ≤ 200) && ds.all formB
  | _ => false
def zeroD : PyData := .tuple [.int 0, .int 0]
def rowB : PyData → Bool
  | .tuple ds => formsB (.tuple ds) && (ds.isEmpty || !PyData.eqv (ds.getLastD .none) zeroD)
  | _ => false

section
variable {X : Cx}
/-- min and max of a tuple of two numbers -/
def rBest (f : Int → Int → Int) : List V → Hp → VK → Prop := fun vs H Q => ∃ (a : Addr) (i j : Int), vs = [.ref a] ∧ H a = some (.tup [.int i, .int j]) ∧ Q (.int (f i j)) H
open PySem.W in
theorem cr_max2T (hc : X.calm = true) (hu : X.A.units + 64 < cLine) : CallR X (.builtin "max") (rBest max) := by
  intro pins s σ H vs us Q I r h
  obtain ⟨a, i, j, rfl, ha, q⟩ := h
  rw [Vals.ref1 r]
  obtain ⟨its, rv, hl, _⟩ := I.tuple (SqT.of (K := X.K) ha)
  obtain ⟨u1, u2, rfl, r1, r2⟩ := vals2 rv
  obtain ⟨t1, rfl⟩ := (show ∃ t, u1 = Value.int i t from r1)
  obtain ⟨t2, rfl⟩ := (show ∃ t, u2 = Value.int j t from r2)
  refine max_tuple_data (x := .int i) (xs := [.int j]) (I.ok.hd hc) hl (.cons (.int i t1) (.cons (.int j t2) .nil)) ?_ ?_ fun k v h' tk bs hv rd kp => ?_
  · exact ⟨fun x hx y hy => by
      rcases List.mem_cons.mp hx with rfl | hx <;> rcases List.mem_cons.mp hy with rfl | hy
      · rfl
      · rw [List.mem_singleton.mp hy]; rfl
      · rw [List.mem_singleton.mp hx]; rfl
      · rw [List.mem_singleton.mp hy, List.mem_singleton.mp hx]; rfl, fun x hx z => by
      rcases List.mem_cons.mp hx with rfl | hx
      · cases z
      · rw [List.mem_singleton.mp hx] at z
        cases z⟩
  · have e : PyData.depthAll [.int i, .int j] = 0 := by simp [PyData.depthAll, PyData.depth]
    rw [e]
    omega
  · have e : maxD (.int i) [.int j] = .int (max i j) := maxD_ints i [j]
    rw [e] at rd
    cases rd with
    | int _ t => exact ⟨.int _, H, I.kept kp, ⟨t, rfl⟩, q⟩
open PySem.W in
theorem cr_min2T (hc : X.calm = true) (hu : X.A.units + 64 < cLine) : CallR X (.builtin "min") (rBest min) := by
  intro pins s σ H vs us Q I r h
  obtain ⟨a, i, j, rfl, ha, q⟩ := h
  rw [Vals.ref1 r]
  obtain ⟨its, rv, hl, _⟩ := I.tuple (SqT.of (K := X.K) ha)
  obtain ⟨u1, u2, rfl, r1, r2⟩ := vals2 rv
  obtain ⟨t1, rfl⟩ := (show ∃ t, u1 = Value.int i t from r1)
  obtain ⟨t2, rfl⟩ := (show ∃ t, u2 = Value.int j t from r2)
  refine min_tuple_data (x := .int i) (xs := [.int j]) (I.ok.hd hc) hl (.cons (.int i t1) (.cons (.int j t2) .nil)) ?_ ?_ fun k v h' tk bs hv rd kp => ?_
  · exact ⟨fun x hx y hy => by
      rcases List.mem_cons.mp hx with rfl | hx <;> rcases List.mem_cons.mp hy with rfl | hy
      · rfl
      · rw [List.mem_singleton.mp hy]; rfl
      · rw [List.mem_singleton.mp hx]; rfl
      · rw [List.mem_singleton.mp hy, List.mem_singleton.mp hx]; rfl, fun x hx z => by
      rcases List.mem_cons.mp hx with rfl | hx
      · cases z
      · rw [List.mem_singleton.mp hx] at z
        cases z⟩
  · have e : PyData.depthAll [.int i, .int j] = 0 := by simp [PyData.depthAll, PyData.depth]
    rw [e]
    omega
  · have e : minD (.int i) [.int j] = .int (min i j) := minD_ints i [j]
    rw [e] at rd
    cases rd with
    | int _ t => exact ⟨.int _, H, I.kept kp, ⟨t, rfl⟩, q⟩
end
/-! ## tuples put together, cut and repeated, over data -/
theorem fresh_same {d p : Addr} {H : Hp} {o : HO} (hd : DiceAt H d) (n : H p = none) : Same (hide d H) (hide d (upd H p o)) := ((Mv.refl hd).new n).same
theorem OpR.to {X : Cx} {f : Value → Value → Sem Value} {r r' : R2} (h : OpR X f r) (i : ∀ x y H Q, r' x y H Q → r x y H Q) : OpR X f r' :=
  fun pins s σ H x y v u Q I rx ry q => h pins s σ H x y v u Q I rx ry (i _ _ _ _ q)
theorem Dx.tupOf {H : Hp} {x : V} {ds : List PyData} (h : Dx H x (.tuple ds)) : ∃ a xs, x = .ref a ∧ H a = some (.tup xs) ∧ DxAll H xs ds := by
  cases h with
  | tup h1 h2 => exact ⟨_, _, rfl, h1, h2⟩
def rCatD : R2 := fun x y H Q => ∃ (d : Addr) (ds es : List PyData), DiceAt H d ∧ Dx (hide d H) x (.tuple ds) ∧ Dx (hide d H) y (.tuple es) ∧ ds.length + es.length ≤ 100000 ∧
  ∀ v H', Mv d H H' → Dx (hide d H') v (.tuple (ds ++ es)) → Q v H'
theorem op_catD {X : Cx} : OpR X (binaryOp .Add) rCatD := by
  refine OpR.to op_catA fun x y H Q h => ?_
  obtain ⟨d, ds, es, hd, hx, hy, hl, k⟩ := h
  obtain ⟨a, xs, rfl, ha, hxs⟩ := hx.tupOf
  obtain ⟨b, ys, rfl, hb, hys⟩ := hy.tupOf
  have l1 := hxs.len
  have l2 := hys.len
  refine ⟨a, b, xs, ys, rfl, rfl, SqT.of (hide_le _ _ ha), SqT.of (hide_le _ _ hb), Nat.le_trans (show xs.length + ys.length ≤ 100000 by omega) (by decide), fun e => ?_, fun _ e => ?_, fun _ _ p np => ?_⟩
  · subst e
    cases hxs
    exact k _ _ (Mv.refl hd) hy
  · subst e
    cases hys
    refine k _ _ (Mv.refl hd) ?_
    rw [List.append_nil]
    exact hx
  · refine k _ _ ((Mv.refl hd).new np) (.tup (by rw [hide_ne (hd.ne np)]; exact upd_same) (DxAll.grow (fresh_same hd np) (hxs.append hys)))
/-- the part of a tuple that a slice takes -/
def cutD (ds : List PyData) (lo hi : Option Int) : List PyData := (ds.drop (HT.sIx ds.length 0 lo)).take (HT.sIx ds.length ds.length hi - HT.sIx ds.length 0 lo)
def rSlD : V → Option Int → Option Int → Hp → VK → Prop := fun x lo hi H Q => ∃ (d : Addr) (ds : List PyData), DiceAt H d ∧ Dx (hide d H) x (.tuple ds) ∧
  ∀ v H', Mv d H H' → Dx (hide d H') v (.tuple (cutD ds lo hi)) → Q v H'
theorem sl_tupD {X : Cx} : SlR X rSlD := by
  intro pins s σ H x v vl vu lo hi sl Q I rx hs pl pu h
  obtain ⟨d, ds, hd, hx, k⟩ := h
  obtain ⟨a, xs, rfl, ha, hxs⟩ := hx.tupOf
  have l1 := hxs.len
  refine sl_tupA pins s σ H (.ref a) v vl vu lo hi sl Q I rx hs pl pu ⟨a, xs, rfl, SqT.of (hide_le _ _ ha), fun e => ?_, fun _ p np => ?_⟩
  · refine k _ _ (Mv.refl hd) ?_
    have e2 : cutD ds lo hi = ds := by
      unfold cutD
      rw [← l1, e.1, e.2]
      simp [l1]
    rw [e2]
    exact hx
  · refine k _ _ ((Mv.refl hd).new np) (.tup (by rw [hide_ne (hd.ne np)]; exact upd_same) (DxAll.grow (fresh_same hd np) ?_))
    have e2 : cutV xs lo hi = (xs.drop (HT.sIx ds.length 0 lo)).take (HT.sIx ds.length ds.length hi - HT.sIx ds.length 0 lo) := by
      unfold cutV
      rw [l1]
    rw [e2]
    exact (hxs.drop _).take _
def rRepD : R2 := fun x y H Q => ∃ (d : Addr) (k : Int) (ds : List PyData), y = .int k ∧ DiceAt H d ∧ Dx (hide d H) x (.tuple ds) ∧ ds ≠ [] ∧ 2 ≤ k ∧ k ≤ 1000 ∧ ds.length ≤ 1000 ∧
  ∀ v H', Mv d H H' → Dx (hide d H') v (.tuple (List.replicate k.toNat ds).flatten) → Q v H'
theorem DxAll.flat {H : Hp} {xs : List V} {ds : List PyData} (h : DxAll H xs ds) : ∀ n, DxAll H (List.replicate n xs).flatten (List.replicate n ds).flatten
  | 0 => .nil
  | n + 1 => by
    rw [List.replicate_succ, List.replicate_succ, List.flatten_cons, List.flatten_cons]
    exact h.append (DxAll.flat h n)
theorem op_repD {X : Cx} : OpR X (binaryOp .Mult) rRepD := by
  refine OpR.to op_repT fun x y H Q h => ?_
  obtain ⟨d, n, ds, rfl, hd, hx, h0, h2, h3, h4, k⟩ := h
  obtain ⟨a, xs, rfl, ha, hxs⟩ := hx.tupOf
  have l1 := hxs.len
  refine ⟨a, n, xs, rfl, rfl, SqT.of (hide_le _ _ ha), fun e => ?_, h2, h3, by omega, fun p np => ?_⟩
  · subst e
    cases hxs
    exact h0 rfl
  · exact k _ _ ((Mv.refl hd).new np) (.tup (by rw [hide_ne (hd.ne np)]; exact upd_same) (DxAll.grow (fresh_same hd np) (hxs.flat n.toNat)))
/-- a value picked out of a list of known data -/
theorem picked {d : Addr} {H H' : Hp} {xs : List V} {ds : List PyData} {i : Nat} {x : V} (h : DxAll (hide d H) xs ds) (m : Mv d H H') (e : xs[i]? = some x) : ∃ dat, dat ∈ ds ∧ Dx (hide d H') x dat := by
  obtain ⟨dat, h1, h2⟩ := h.get i x e
  exact ⟨dat, List.mem_of_getElem? h1, h2.grow m.same⟩
end G

set_option Elab.async false
set_option linter.all false
set_option maxRecDepth 100000
set_option maxHeartbeats 4000000
namespace G
open PySem PySem.Spec PyProof.Rows L2 HT
/-! ## a tuple read backwards: t[::-1] -/
theorem all_places {α : Type} : ∀ l : List α, (List.range l.length).filterMap (fun k => l[k]?) = l
  | [] => rfl
  | x :: r => by
    have ih := all_places r
    rw [List.length_cons, List.range_succ_eq_map, List.filterMap_cons]
    show x :: List.filterMap (fun k => (x :: r)[k]?) (List.map Nat.succ (List.range r.length)) = x :: r
    rw [List.filterMap_map]
    exact congrArg (x :: ·) ih
theorem fm_congr {α β : Type} {f g : α → Option β} : ∀ l : List α, (∀ x ∈ l, f x = g x) → l.filterMap f = l.filterMap g
  | [], _ => rfl
  | x :: r, h => by
    rw [List.filterMap_cons, List.filterMap_cons, h x List.mem_cons_self, fm_congr r fun y hy => h y (List.mem_cons_of_mem _ hy)]
theorem back_items (xs : Array Value) : ((List.range xs.size).filterMap fun (k : Nat) => xs[(((xs.size : Int) - 1) + (k : Int) * (-1)).toNat]?).toArray = xs.toList.reverse.toArray := by
  congr 1
  have e := all_places xs.toList.reverse
  rw [List.length_reverse, Array.length_toList] at e
  rw [← e]
  refine fm_congr _ fun k hk => ?_
  have hk' : k < xs.size := List.mem_range.mp hk
  rw [show (((xs.size : Int) - 1) + (k : Int) * (-1)).toNat = xs.size - 1 - k by omega]
  rw [← Array.getElem?_toList, List.getElem?_reverse (by rw [Array.length_toList]; exact hk'), Array.length_toList]
section
variable {prog : Program} {w : World} {A : Around} {E : Value → Shared → Prop} {s : Shared}
theorem applied_back {sl : Addr} {vl vu vs : Value} {n : Nat} {Q : Int × Int × Nat → Shared → Prop} (hs : s.heap.IsSliceOf sl vl vu vs) (pl : IsPart vl none) (pu : IsPart vu none) (ps : IsPart vs (some (-1)))
    (h : Q ((n : Int) - 1, -1, n) s) : wpAny (model prog w) A (Builtin.Slice.sliceApplied (.ref sl) (pure (n : Int))) Q E s := by
  obtain ⟨so, so1, so2, so3⟩ := id hs
  unfold Builtin.Slice.sliceApplied Builtin.Slice.sliceFields
  refine wpAny_bind (wpAny_bind (wpAny_field so1 so3 (x := vl) rfl (wpAny_bind (wpAny_field so1 so3 (x := vu) rfl (wpAny_bind (wpAny_field so1 so3 (x := vs) rfl (wpAny_pure ?_)))))))
  refine wpAny_bind (slicePart_ ps ?_)
  show wpAny _ _ (if ((-1 : Int) == 0) = true then _ else _) _ _ s
  rw [if_neg (by decide)]
  refine wpAny_bind (slicePart_ pl (wpAny_bind (slicePart_ pu (wpAny_bind (wpAny_pure ?_)))))
  have e1 : Builtin.Slice.sliceAdjust none none (-1) (n : Int) = ((n : Int) - 1, -1) := rfl
  have e2 : Builtin.Slice.slicePlaces ((n : Int) - 1) (-1) (-1) = n := by
    unfold Builtin.Slice.slicePlaces
    rw [if_neg (by decide)]
    by_cases q : (n : Int) - 1 > -1
    · rw [if_pos q]
      have : ((n : Int) - 1 - -1 - 1) / - -1 = (n : Int) - 1 - -1 - 1 := by
        rw [Int.neg_neg, Int.ediv_one]
      rw [this]
      omega
    · rw [if_neg q]
      omega
  show wpAny _ _ (match Builtin.Slice.sliceAdjust none none (-1) (n : Int) with | (lo, hi) => pure (lo, (-1 : Int), Builtin.Slice.slicePlaces lo hi (-1))) _ _ s
  rw [e1]
  show wpAny _ _ (pure ((n : Int) - 1, (-1 : Int), Builtin.Slice.slicePlaces ((n : Int) - 1) (-1) (-1))) _ _ s
  rw [e2]
  exact wpAny_pure h
theorem item_back {t sl : Addr} {items : Array Value} {vl vu vs : Value} {Q : Value → Shared → Prop} (ht : IsTup s.heap t items) (hs : s.heap.IsSliceOf sl vl vu vs) (pl : IsPart vl none) (pu : IsPart vu none) (ps : IsPart vs (some (-1)))
    (h : Q (.ref s.heap.objs.size) { s with heap := s.heap.push { cls := .type "tuple", data := .seq items.toList.reverse.toArray } }) (hsz : items.size ≤ sizeLine) : wpAny (model prog w) A (getItem (.ref t) (.ref sl)) Q E s := by
  have fits : sizeOk (.seq items.toList.reverse.toArray) := by
    show items.toList.reverse.toArray.size ≤ sizeLine
    rw [List.size_toArray, List.length_reverse, Array.length_toList]
    exact hsz
  obtain ⟨so, so1, so2, so3⟩ := id hs
  have kind : s.TypeIs (.ref sl) "slice" := ⟨so, so1, so2⟩
  unfold getItem
  try with_reducible refine wpAny_holding ?_
  first | refine wpAny_bind (wpAny_pure ?_) | skip
  refine wpAny_bind (wpAny_sequenceKey ht.typeIs (by decide) ?_)
  refine wpAny_bind (wpAny_callSpecial?_slot (name := Str.ofString "__getitem__") ht.typeIs PyProof.Rows.slot_tuple_getitem (wpAny_call_entry PyProof.Rows.slot_tuple_getitem ht.typeIs entry_tuple_getitem ?_ (args_tuple_getitem _ _)))
  show wpAny _ _ (Builtin.Tuple.tupleItemsOf (.ref t) >>= _) _ _ s
  refine wpAny_bind (tupleItemsOf_ ht (wpAny_bind (wpAny_typeOf kind ?_)))
  rw [if_pos (by decide)]
  refine wpAny_bind (applied_back hs pl pu ps ?_)
  have part : ¬ ((((items.size : Int) - 1) == 0 && (-1 : Int) == 1 && items.size == items.size) = true) := by
    intro q
    rw [Bool.and_eq_true, Bool.and_eq_true] at q
    exact absurd q.1.2 (by decide)
  show wpAny _ _ (if (((items.size : Int) - 1) == 0 && (-1 : Int) == 1 && items.size == items.size) = true then _ else _) _ _ s
  rw [if_neg part, back_items]
  first
    | exact wpAny_bind (m := Builtin.Tuple.tupleExact _) (wpAny_newObj_type (wpAny_pure ⟨_, rfl, wpAny_pure h⟩) fits)
    | exact wpAny_bind (m := Builtin.Tuple.tupleExact _) (wpAny_newObj_type (wpAny_bind (wpAny_pure (wpAny_pure ⟨_, rfl, wpAny_pure h⟩))) fits)
    | exact wpAny_bind (wpAny_bind (m := Builtin.Tuple.tupleExact _) (wpAny_newObj_type (wpAny_pure (wpAny_pure ⟨_, rfl, wpAny_pure h⟩)) fits))
    | exact wpAny_bind (wpAny_bind (m := Builtin.Tuple.tupleExact _) (wpAny_newObj_type (wpAny_pure ⟨_, rfl, wpAny_pure h⟩) fits))
end
def tRevT (K : PySem.W.Frag) (te : TE) : TE := fun σ H Q => te σ H fun x H1 => ∃ a xs, x = .ref a ∧ SqT K H1 a xs ∧ ∀ p, H1 p = none → Q (.ref p) (upd H1 p (.tup xs.reverse))
theorem pe_revT {X : Cx} {e : Expr} {te : TE} {k : Nat} {p1 p2 p3 pos : Pos} (he : PE X e te) : PE X (.Subscript e (.Slice none none (some (.UnaryOp .USub (.Constant (.int 1) k p1) p2)) p3) pos) (tRevT X.K te) := by
  constructor
  intro pins s σ H Q I h
  refine Subscript_ (thn (he.run pins s σ H _ I h) fun v s1 hv => ?_)
  obtain ⟨x, H1, I1, r1, a, xs, rfl, hx, q⟩ := hv
  cases r1
  have stp : PO X (some (.UnaryOp .USub (.Constant (.int 1) k p1) p2)) (tPart (tUn (rU fun i => .int (-i)) (tC (.int 1)))) := po_some (pe_un un_neg pe_int)
  refine wpAny_Slice (thn (po_none.run pins s1 σ H1 (fun o G => o = none ∧ G = H1) I1 ⟨rfl, rfl⟩) fun vl s2 hl => ?_)
  obtain ⟨l, H2, I2, pl, rfl, rfl⟩ := hl
  refine thn (po_none.run pins s2 σ H2 (fun o G => o = none ∧ G = H2) I2 ⟨rfl, rfl⟩) fun vu s3 hu => ?_
  obtain ⟨u, H3, I3, pu, rfl, rfl⟩ := hu
  refine thn (stp.run pins s3 σ H3 (fun o G => o = some (-1) ∧ G = H3) I3 ⟨1, rfl, -1, rfl, rfl, rfl⟩) fun vs s4 ho => ?_
  obtain ⟨o, H4, I4, ps, rfl, rfl⟩ := ho
  have I5 : Inv X pins σ H4 { s4 with heap := s4.heap.push { cls := .type "slice", data := .fields #[vl, vu, vs] } } := I4.kept (t' := s4.toks) fun b ob z => Heap.get?_push_of_some _ z
  obtain ⟨its, r, ht, hz⟩ := I5.tuple hx
  have hlen := r.length
  show wpAny (model X.prog X.w) X.A (subscriptTail e (.Slice none none (some (.UnaryOp .USub (.Constant (.int 1) k p1) p2)) p3) (.ref a) (.ref s4.heap.objs.size)) (EP X pins σ Q) X.xe { s4 with heap := s4.heap.push { cls := .type "slice", data := .fields #[vl, vu, vs] } }
  refine tail_any (ops := [.ref a, .ref s4.heap.objs.size]) ht.typeIs (PyProof.Rows.slot_tuple_getitem.lookup) ?_ (by with_unfolding_all rfl)
  refine item_back ht (Heap.IsSliceOf.new _ vl vu vs) pl pu ps ?_ (by rw [List.size_toArray]; omega)
  refine ⟨.ref _, _, I5.laid (t' := s4.toks) (o := .tup xs.reverse) (fun b ob z => Heap.get?_push_of_some _ z) (Nat.le_refl _) ?_, rfl, q _ (I5.hok.fresh (Nat.le_refl _))⟩
  refine ⟨by rw [List.length_reverse]; exact hz, its.reverse, r.reverse, _, Heap.get?_push_size _ rfl, rfl, 0, ?_⟩
  simp
end G

set_option Elab.async false
set_option linter.all false
set_option maxRecDepth 100000
set_option maxHeartbeats 4000000
namespace G
open PySem PySem.Spec PyProof.Rows L2
/-! ## Promises of defs that may raise (guards empty) -/
theorem okGX {P : Program} {w : World} {K : PySem.W.Frag} {mg : Str → Option Value} {base : Heap} {x qual : Str} {st : Stmt} {f : Addr} {fd : FuncData}
    {N ps : List Str} {k : Nat} {sp : Sp} (F : Fun K x qual st f fd) (S : FnScope N ps (defScope st)) (len : ∀ xs H Q E, sp xs H Q E → xs.length = ps.length)
    (hbody : ∀ (cdv : Value) (A : Around) (out : List Env) (s : Shared) (H : Hp) (xs : List V) (Q : VK) (E : XK), A.guards = some [] →
      Room k (A.deeper (envOfC qual (defScope st) s.heap.objs.size f cdv)) → sp xs H Q E →
      ∃ t, PSs (cxOf (L2.CX P w) P w K mg base N qual (defScope st) f cdv A out s H E) (defBody st) t ∧
        t { nx := fun _ H' => Q .non H', rt := Q } (start N xs) H) :
    FnG P w K mg base (L2.CX P w) (k + 1) f fd ps sp := by
  obtain ⟨oc, od, kV, doc, pm, an, cdv, ct, osl, rfl, lk, hcd⟩ := F.ex
  constructor
  · exact len
  intro A out s H args us xs Q E gA hr e0 hb r hsp
  have old : ∀ b o, base.get? b = some o → s.heap.get? b = some o := fun b o q => (e0.bs b o q).1
  have KX : K.In s.heap := e0.mod.kin.keeps old
  have lim : s.heap.NoLimit := e0.mod.nolimit.keeps old
  refine codeAny_call_function hr.depth (KX _ _ lk) rfl S.co S.gen rfl (PySem.W.codeRec_of KX hcd) (hb _ _ _ _ ?_)
  refine wpAny_newFunctionEnv_cells S.kind (fun y hy => ?_) fun env he s1 x1 => ?_
  · have q := S.par y.1 (List.of_mem_zip (a := y.1) (b := y.2) hy).1
    exact q.elim .inl fun q => .inr ⟨q, PySem.W.cellsFrom_some _ _ _ (.inl q)⟩
  · subst he
    refine ⟨lim.keeps x1.toInCall.keep, codeAny_func ?_⟩
    obtain ⟨t, ht, hq⟩ := hbody cdv A out s H xs Q E gA (hr.deeper _) hsp
    have I := inv_start (CX := L2.CX P w) (P := P) (w := w) (K := K) (mg := mg) (base := base) (N := N) (ps := ps) (E := E) S hr.hd e0 (len _ _ _ _ hsp) r x1
    refine wpAny_mono (ht.run [] s1 (start N xs) H _ I hq) (fun fl s2 hs => ?_) fun _ _ z => z
    match fl, hs with
    | .ret u, ⟨v, σ', H', J, rv, q⟩ => exact ⟨v, H', J.os, J.bare, J.base, J.hok, rv, q⟩
    | .next, ⟨σ', H', J, q⟩ => exact ⟨V.non, H', J.os, J.bare, J.base, J.hok, rfl, q⟩
    | .brk, ⟨_, _, _, q⟩ => exact q.elim
    | .cont, ⟨_, _, _, q⟩ => exact q.elim
structure CalX (P : Program) (w : World) (K : PySem.W.Frag) (mg : Str → Option Value) (base : Heap) (k : Nat) (x : Str) (ps : List Str) (sp : Sp) : Prop where
  ex : ∃ f fd, FnG P w K mg base (L2.CX P w) k f fd ps sp ∧ mg x = some (.ref f) ∧ PySem.W.keepIn K (.ref f) = true ∧ Binds K fd ps []
theorem calOkX {P : Program} {w : World} {K : PySem.W.Frag} {mg : Str → Option Value} {base : Heap} {x : Str} {st : Stmt} {N ps : List Str} {k : Nat} {sp : Sp}
    (D : DefAt K mg x st ps) (S : FnScope N ps (defScope st)) (len : ∀ xs H Q E, sp xs H Q E → xs.length = ps.length)
    (hbody : ∀ (f : Addr) (cdv : Value) (A : Around) (out : List Env) (s : Shared) (H : Hp) (xs : List V) (Q : VK) (E : XK), A.guards = some [] →
      Room k (A.deeper (envOfC x (defScope st) s.heap.objs.size f cdv)) → sp xs H Q E →
      ∃ t, PSs (cxOf (L2.CX P w) P w K mg base N x (defScope st) f cdv A out s H E) (defBody st) t ∧
        t { nx := fun _ H' => Q .non H', rt := Q } (start N xs) H) : CalX P w K mg base (k + 1) x ps sp := by
  obtain ⟨f, fd, F, m, b⟩ := D.ex
  exact ⟨f, fd, okGX F S len (hbody f), m, F.kp, Binds.all b⟩
section
variable {X : Cx} {CX : CXT} {k j : Nat} {f : Addr} {fd : FuncData} {ps : List Str} {sp : Sp} {E : L2.St → XK} {x : Str} {p pos : Pos} {e : Expr} {es : List Expr} {t : TA}
theorem runGS {pins : List (Addr × Obj)} {σ : L2.St} {H : Hp} {s : Shared} {Q : VK} {us : List Value} {xs : List V}
    (F : FnG X.prog X.w X.K X.mg X.base CX k f fd ps sp) (hgd : X.A.guards = some []) (hr : Room k X.A) (hb : Binds X.K fd ps []) (hx : PassesAt CX X σ (E σ))
    (I : Inv X pins σ H s) (r : Vals xs us) (h : sp xs H Q (E σ)) : wpAny (model X.prog X.w) X.A (call (.ref f) us) (EP X pins σ Q) X.xe s := by
  have sz : us.length = ps.length := r.length.symm.trans (F.len _ _ _ _ h)
  have body := F.go X.A X.stack s H ⟨us, []⟩ us xs Q (E σ) hgd hr I.env0 (by have := hb s us I.kIn (by rw [List.append_nil]; exact sz); rwa [List.append_nil] at this) r h
  refine wpAny_call (codeAny_mono body fun res t hq => ?_)
  match res, hq with
  | .error e, hq => exact hx pins H s e t I hq
  | .ok (.ret u), hq => exact I.after hq
  | .ok .next, hq => exact hq.elim
  | .ok .brk, hq => exact hq.elim
  | .ok .cont, hq => exact hq.elim
theorem pe_gS (F : FnG X.prog X.w X.K X.mg X.base CX k f fd ps sp)
    (hgd : X.A.guards = some []) (hr : Room k X.A) (hg : Gl X x) (hm : X.mg x = some (.ref f)) (hk : PySem.W.keepIn X.K (.ref f) = true)
    (hb : Binds X.K fd ps []) (hx : ∀ σ, PassesAt CX X σ (E σ)) (ha : PA X (e :: es) t)
    (hdb : (x == ("__debug__" : Str)) = false := by decide)
    (he : starEach (e :: es) X.env = (false, eval e X.env) :: starEach es X.env := by rfl)
    (hpl : (backTo pos (starEach es X.env)).any (·.1) = false := by rfl) :
    PE X (.Call (.Name x p) (e :: es) [] pos) (tCallS sp E t) :=
  ⟨fun pins s σ H Q I h => wpAny_Call_Name_kw (ld_glob I hg hm
    (PySem.W.callWith_K (h₀ := X.base) I.ok.mod.kin hk
      (thn (ha.run pos pins s σ H _ I h) fun us s1 ⟨xs, H1, I1, r, q⟩ => ⟨I1.kIn, runGS F hgd hr hb (hx σ) I1 r q⟩) he hpl) hdb)⟩
/-- a call of a def that may raise; what it lets out goes on to W -/
theorem pe_kx {W : WX} (c : CalX X.prog X.w X.K X.mg X.base k x ps sp) (tk : Takes X W) (hgd : X.A.guards = some []) (hr : Room j X.A) (hk : k ≤ j) (hg : Gl X x) (ha : PA X (e :: es) t)
    (hdb : (x == ("__debug__" : Str)) = false := by decide)
    (he : starEach (e :: es) X.env = (false, eval e X.env) :: starEach es X.env := by rfl)
    (hpl : (backTo pos (starEach es X.env)).any (·.1) = false := by rfl) :
    PE X (.Call (.Name x p) (e :: es) [] pos) (tCallS sp (WE W) t) := by
  obtain ⟨f, fd, F, m, kp, b⟩ := c.ex
  exact pe_gS F hgd (hr.mono hk) hg m kp b (fun σ => passAt tk σ) ha hdb he hpl
end
/-- a class of the text that is an exception over a built-in one, without an own __init__ -/
structure ErrAt (K : PySem.W.Frag) (mg : Str → Option Value) (x : Str) (C : Addr) (bm : List Value) (nid : String) : Prop where
  at_ : mg x = some (.ref C)
  exc : PySem.W.excIn K C bm nid = true
  keep : PySem.W.keepIn K (.ref C) = true
  base : PySem.W.subIn K (.ref C) (.type "BaseException") = some true
  ty : PySem.W.typeIn K (.ref C) = some (.type "type")
abbrev veL : List Value := [.type "ValueError", .type "Exception", .type "BaseException", .type "object"]
end G

set_option Elab.async false
set_option linter.all false
set_option maxRecDepth 100000
set_option maxHeartbeats 4000000
namespace G
open PySem PySem.W PySem.Calls PyProof.Rows
section
variable {prog : Program} {w : World} {A : Around} {E : Value → Shared → Prop} {R : Result → Shared → Prop} {s : Shared} {K : Frag} {B : String} {bmB : List Value}
/-- a local name of a def without cells -/
theorem ld_own {M : Model} {s : Shared} {name : Str} {scope : Scope} {L a : Addr} {cd : Value} {m : Str → Option Value} {x : Str} {pos : Pos} {v : Value} {Q : Value → Shared → Prop} {A : Around} {E : Value → Shared → Prop} (hn : s.heap.Ns L m) (hv : m x = some v) (h : Q v s)
    (hk : scope.kind = .function := by rfl) (hl : (envOfC name scope L a cd).kindOf x = some .local := by rfl) (hd : (x == ("__debug__" : Str)) = false := by decide) :
    wpAny M A (eval (.Name x pos) (envOfC name scope L a cd)) Q E s := wpAny_Name (wpAny_loadName_local hk hl hn hv h) hd
/-- the first field that is stored in a fresh exception of any base -/
theorem first_store {name : Str} {tk : Tok} {v : Value} {x C t : Addr} (SF : StoreFacts B bmB "object.__setattr__" "object") (X : K.In s.heap) (hx : s.heap.get? x = some (excObj C t none .none)) (ov : excOver K C bmB = true) (tn : takerIn K C name = some none) (hd : hasDictIn K C = true)
    (hq : ∀ h' tk' dx, (∀ b o, b ≠ x → s.heap.get? b = some o → h'.get? b = some o) → s.heap.objs.size ≤ dx → dx ≠ x → h'.get? x = some (excObj C t (some dx) .none) →
      h'.Ns1 dx (fun y => if y = name then some v else none) → R (.ok (.ret .none)) { s with heap := h', toks := tk' }) :
    codeAny (model prog w) A (.call (.builtin "object.__setattr__") ⟨[.ref x, .str name tk, v], []⟩) R s := by
  have low : x < s.heap.objs.size := Heap.lt_size hx
  refine osa_openX (od := none) SF X ⟨hx, rfl, rfl, trivial⟩ ov tn fun b => ?_
  obtain ⟨cd, hc, hd'⟩ := any_some hd
  refine wpAny_bind (wpAny_pure (wpAny_bind (instanceDict_exc hx (looks_clsIn X hc) hd' ?_)))
  have ne : x ≠ s.heap.objs.size := Nat.ne_of_lt low
  have hp : (s.heap.push (dictOf [] 0)).get? x = some (excObj C t none .none) := Heap.get?_push_of_some _ hx
  refine PySem.HandSPX.store_in_new (hp := (s.heap.push (dictOf [] 0)).update x fun o => { o with dict := some s.heap.objs.size }) ⟨_, #[], _, (Heap.get?_update_ne _ _ _ _ ne.symm).trans (Heap.get?_push_size _ rfl), rfl, fun e he => absurd he (by simp), fun _ => rfl⟩ fun h' tk' n sb => ?_
  refine hq h' tk' s.heap.objs.size (fun y o hy e => ?_) (Nat.le_refl _) ne.symm ?_ n
  · exact (sb.2 y (Nat.ne_of_lt (Heap.lt_size e))).trans ((Heap.get?_update_ne _ _ _ _ hy).trans (Heap.get?_push_of_some _ e))
  · exact (sb.2 x ne).trans (Heap.get?_update_self _ hp rfl)
end
end G

set_option Elab.async false
set_option linter.all false
set_option maxRecDepth 100000
set_option maxHeartbeats 4000000
namespace G
open PySem PySem.Spec PyProof.Rows L2
/-! ## try with clauses of both kinds: `except A:` and `except B as e:` -/
/-- behind a suite that had the error's name in slot i -/
def gone (i : Nat) (D : Ends) : Ends := { nx := fun σ H => D.nx (σ.set i none) H, rt := D.rt, bk := fun σ H => D.bk (σ.set i none) H, ct := fun σ H => D.ct (σ.set i none) H }
abbrev Clause := Value × Option Nat × (Addr → Value → Option Addr → TS)
def wMix (K : PySem.W.Frag) (Wout : WX) (D : Ends) : List Clause → WX
  | [] => Wout
  | (c, n, ts) :: r => fun cls d σ H => ∃ b, PySem.W.exmOne K cls c = some b ∧
      (b = true → ∀ a, H a = none → match n with | none => ts a cls d D σ H | some i => i < σ.length → ts a cls d (gone i D) (σ.set i (some (.ref a))) H) ∧ (b = false → wMix K Wout D r cls d σ H)
inductive MixOk (X : Cx) : List ExceptHandler → List Clause → Prop
  | nil : MixOk X [] []
  | plain {x : Str} {c : Value} {ts : Addr → Value → Option Addr → TS} {b0 : Stmt} {bs : List Stmt} {np hp : Pos} {hds : List ExceptHandler} {l : List Clause} (hc : Names X x c)
      (su : ∀ (a : Addr) (oe : Obj) (cls : Value) (d : Option Addr) (pn : List (Addr × Obj)), Zc cls d oe → (∃ vs, oe.data = .fields vs) → X.base.get? a = none → PSs (X.suite a ((a, oe) :: pn)) (b0 :: bs) (ts a cls d)) (r : MixOk X hds l) :
      MixOk X (.ExceptHandler (some (.Name x np)) none (b0 :: bs) hp :: hds) ((c, none, ts) :: l)
  | named {x n : Str} {i : Nat} {c : Value} {ts : Addr → Value → Option Addr → TS} {b0 : Stmt} {bs : List Stmt} {np hp : Pos} {hds : List ExceptHandler} {l : List Clause} (hc : Names X x c) (hN : X.N.Nodup) (hi : X.N[i]? = some n) (hl : X.env.kindOf n = some .local)
      (su : ∀ (a : Addr) (oe : Obj) (cls : Value) (d : Option Addr) (pn : List (Addr × Obj)), Zc cls d oe → (∃ vs, oe.data = .fields vs) → X.base.get? a = none → PSs (X.suite a ((a, oe) :: pn)) (b0 :: bs) (ts a cls d)) (r : MixOk X hds l) :
      MixOk X (.ExceptHandler (some (.Name x np)) (some n) (b0 :: bs) hp :: hds) ((c, some i, ts) :: l)
section
variable {X : Cx} {body : List Stmt} {h0 : ExceptHandler} {hds : List ExceptHandler} {l : List Clause} {pos : Pos} {tb : WX → TS} {Wout : WX}
theorem ps_mix (hs : X.stack = X.env :: X.outer) (hf : X.env.frame = some X.env.locals) (tk : Takes X Wout)
    (hb : ∀ (W : WX) (pn : List (Addr × Obj)) (xe : Value → Shared → Prop), Takes (X.tr pn xe) W → PassesOwn (model X.prog X.w) X.A X.env xe → PSs (X.tr pn xe) body (tb W))
    (hh : MixOk X (h0 :: hds) l) : PS X (.Try body (h0 :: hds) [] [] pos) (fun D σ H => tb (wMix X.K Wout D l) D σ H) := by
  constructor
  intro pins s σ H D I h
  have ok := I.ok
  have frames : X.A.frames = some (X.env :: X.outer) := ok.frames.trans (congrArg some hs)
  -- what meets an error that the body lets out
  let meets : Value → Shared → Prop := fun e s1 => wpAny (model X.prog X.w) X.A (noteFrame e X.env) (fun _ s2 => wpAny (model X.prog X.w) X.A (setFlight e none) (fun _ s3 => wpAny (model X.prog X.w) X.A (handleBy e X.env (h0 :: hds)) (SP X pins D) X.xe s3) X.xe s2) X.xe s1
  have catches : Takes (X.tr (X.pn ++ pins) meets) (wMix X.K Wout D l) := by
    rintro _ t ⟨a, B, sI, pins', σ', H', cls, d, rfl, J', nb, up, sky, na, os, ag, w⟩
    have J : Inv X pins σ' H' sI := J'.ofTry ok
    refine Sky.land Zc.steady frames hf (hs ▸ sky : Sky B (X.env :: X.outer) a (Zc cls d) X.env.locals t.heap) fun h3 fl up3 => ?_
    have J3 : Inv X pins σ' H' { t with heap := h3 } := J.landed nb fl.1 (up.trans up3) os ag
    obtain ⟨oe, vs, eo, zo, do_⟩ := fl.there
    have nbase : X.base.get? a = none := by
      cases q : X.base.get? a with
      | none => rfl
      | some ob =>
        have q1 := J'.bk a ob q
        have q2 : a ∉ frs X.stack := fun hm => by
          have z := (J'.stack.mem hm).1
          rw [show (X.tr (X.pn ++ pins) meets).base = X.base from rfl, q] at z
          cases z
        have q3 := nb a ob q1 q2
        rw [fl.2.1] at q3
        cases q3
    have away : a ∉ frs (X.env :: X.outer) := fun hm => by
      obtain ⟨_, o, e, nf⟩ := fl.2.2.1.mem hm
      rw [eo] at e
      cases e
      exact nf _ do_
    have nL : a ≠ X.env.locals := fun z => away (List.mem_filterMap.mpr ⟨X.env, List.mem_cons_self, hf.trans (congrArg some z.symm)⟩)
    have nF : a ∉ X.fs := fun hm => by
      obtain ⟨e, he, q⟩ := List.mem_filterMap.mp hm
      exact away (List.mem_filterMap.mpr ⟨e, List.mem_cons_of_mem _ he, q⟩)
    have S3 := J3.suite eo do_ na nL nF
    have isA : PySem.W.Looks (model X.prog X.w) h3 (typeOf (.ref a)) cls := fun A Q E s k q => wpAny_typeOf_ref (k _ _ eo) (zo.1.symm ▸ q)
    -- a clause's class is looked up
    have look : ∀ {x : Str} {c : Value} {np : Pos} {Q E : Value → Shared → Prop}, Names X x c → Q c { t with heap := h3 } → wpAny (model X.prog X.w) (X.A.mark (some (.ref a))) (eval (.Name x np) X.env) Q E { t with heap := h3 } := by
      rintro x c np Q E ⟨gx, nx, mx | ⟨mx, vx, ex⟩⟩ q
      · exact ld_glob (X := X.suite a ((a, oe) :: (X.pn ++ pins))) S3 gx mx q nx
      · exact ld_blt (X := X.suite a ((a, oe) :: (X.pn ++ pins))) S3 gx mx vx q ex nx
    have go : ∀ {hs' : List ExceptHandler} {l' : List Clause}, MixOk X hs' l' → wMix X.K Wout D l' cls d σ' H' → wpAny (model X.prog X.w) X.A (handleBy (.ref a) X.env hs') (SP X pins D) X.xe { t with heap := h3 } := by
      intro hs' l' m
      induction m with
      | nil =>
        intro w
        have flight := fl
        obtain ⟨_, _, _, oe2, vs2, T, _, _, e2, _, d2, i1, _⟩ := flight
        have out : wpAny (model X.prog X.w) X.A (setFlight (.ref a) X.env.frame) (fun _ s4 => wpAny (model X.prog X.w) X.A (throw (.ref a) : Sem Flow) (SP X pins D) X.xe s4) X.xe { t with heap := h3 } := by
          rw [hf]
          exact HandSPX.setFlight_upZ fl fun h4 held up4 => wpAny_throw (tk _ _ ⟨a, B, sI, pins, σ', H', cls, d, rfl, J, nb, (up.trans up3).trans up4, .inr (.inr (hs.symm ▸ held)), na, os, ag, w⟩)
        refine wpAny_handleBy_nil ?_
        unfold PySem.passOn
        refine wpAny_bind (wpAny_field e2 d2 i1 ?_)
        rw [if_neg (by simp : ¬ ((Value.ref T == Value.none) = true))]
        first
          | exact wpAny_bind out
          | exact wpAny_bind (wpAny_pure (wpAny_bind out))
      | plain hc su r ih =>
        rintro ⟨b, hb1, yes, no⟩
        refine wpAny_handleBy_cons (codeAny_handlers_test (look hc ((PySem.W.exm_one (M := model X.prog X.w) J3.kIn isA hb1).here ?_))) (fun q => nomatch q)
        match b, hb1, yes, no with
        | false, _, _, no => exact ih (no rfl)
        | true, _, yes, _ =>
          refine codeAny_handlers_suite (HandSPX.lands_againZ fl fun h4 fl4 up4 => ?_)
          have J4 : Inv X pins σ' H' { t with heap := h4 } := J.landed nb fl4.1 ((up.trans up3).trans up4) os ag
          obtain ⟨oe4, vs4, e4, z4, d4⟩ := fl4.there
          refine wpAny_mono ((su a oe4 cls d (X.pn ++ pins) z4 ⟨_, d4⟩ nbase).run [] _ _ H' _ (J4.suite e4 d4 na nL nF) (yes rfl a na)) (fun f s6 q => ?_) (fun _ _ z => z.elim)
          match f, q with
          | .next, ⟨σ6, H6, S6, q6⟩ => exact ⟨_, _, S6.unsuite ok, q6⟩
          | .brk, ⟨σ6, H6, S6, q6⟩ => exact ⟨_, _, S6.unsuite ok, q6⟩
          | .cont, ⟨σ6, H6, S6, q6⟩ => exact ⟨_, _, S6.unsuite ok, q6⟩
          | .ret u, ⟨v6, σ6, H6, S6, r6, q6⟩ => exact ⟨_, _, _, S6.unsuite ok, r6, q6⟩
      | @named x n i c ts b0 bs np hp hds2 l2 hc hN hi hl su r ih =>
        rintro ⟨b, hb1, yes, no⟩
        refine wpAny_handleBy_cons (codeAny_handlers_test (look hc ((PySem.W.exm_one (M := model X.prog X.w) J3.kIn isA hb1).here ?_))) (fun q => nomatch q)
        match b, hb1, yes, no with
        | false, _, _, no => exact ih (no rfl)
        | true, _, yes, _ =>
          refine codeAny_handlers_suite_as (HandSPX.lands_againZ fl fun h4 fl4 up4 => ?_)
          have J4 : Inv X pins σ' H' { t with heap := h4 } := J.landed nb fl4.1 ((up.trans up3).trans up4) os ag
          obtain ⟨oe4, vs4, e4, z4, d4⟩ := fl4.there
          refine store_ok (X := X.suite a ((a, oe4) :: (X.pn ++ pins))) (v := .ref a) (J4.suite e4 d4 na nL nF) hN hi (.inl hl) rfl (fun s5 S5 => ?_) (.inr hl)
          refine wpAny_mono ((su a oe4 cls d (X.pn ++ pins) z4 ⟨_, d4⟩ nbase).run [] s5 _ H' _ S5 (yes rfl a na (by rw [J.len]; exact (List.getElem?_eq_some_iff.mp hi).1))) (fun f s6 q => ?_) (fun _ _ z => z.elim)
          have fin : ∀ {σ6 : L2.St} {H6 : Hp} {Q : Shared → Prop}, Inv (X.suite a ((a, oe4) :: (X.pn ++ pins))) [] σ6 H6 s6 → (∀ s7, Inv X pins (σ6.set i none) H6 s7 → Q s7) →
              wpAny (model X.prog X.w) X.A (do bindName X.env n .none; unbindBehindTheSuite X.env n hp) (fun _ s7 => Q s7) X.xe s6 := fun {σ6 H6 Q} S6 k => gone_ok (S6.unsuite ok) hN hi hl k
          match f, q with
          | .next, ⟨σ6, H6, S6, q6⟩ => exact fin S6 fun s7 J7 => ⟨_, _, J7, q6⟩
          | .brk, ⟨σ6, H6, S6, q6⟩ => exact fin S6 fun s7 J7 => ⟨_, _, J7, q6⟩
          | .cont, ⟨σ6, H6, S6, q6⟩ => exact fin S6 fun s7 J7 => ⟨_, _, J7, q6⟩
          | .ret u, ⟨v6, σ6, H6, S6, r6, q6⟩ => exact fin S6 fun s7 J7 => ⟨_, _, _, J7, r6, q6⟩
    exact go hh w
  refine wpAny_Try_except (wpAny_mono ((hb (wMix X.K Wout D l) (X.pn ++ pins) meets catches PassesOwn.looking).run [] s σ H D (I.toTry _) h) (fun f s1 q => ?_) (fun e s1 z => z))
  match f, q with
  | .next, ⟨σ1, H1, J1, q1⟩ => exact wpAny_execs_nil ⟨σ1, H1, J1.ofTry ok, q1⟩
  | .brk, ⟨σ1, H1, J1, q1⟩ => exact ⟨σ1, H1, J1.ofTry ok, q1⟩
  | .cont, ⟨σ1, H1, J1, q1⟩ => exact ⟨σ1, H1, J1.ofTry ok, q1⟩
  | .ret u, ⟨v, σ1, H1, J1, r, q1⟩ => exact ⟨v, σ1, H1, J1.ofTry ok, r, q1⟩
end
end G

set_option Elab.async false
set_option linter.all false
set_option maxRecDepth 100000
set_option maxHeartbeats 4000000
namespace G
open PySem PySem.Spec PyProof.Rows L2
/-! ## Promises with a switch: gq = true asks for empty guards (texts of containers), gq = false asks nothing (so a lambda may call) -/
structure FnQ (gq : Bool) (P : Program) (w : World) (K : PySem.W.Frag) (mg : Str → Option Value) (base : Heap)
    (CX : CXT) (k : Nat) (f : Addr) (fd : FuncData) (ps : List Str) (sp : Sp) : Prop where
  len : ∀ xs H Q E, sp xs H Q E → xs.length = ps.length
  go : ∀ (A : Around) (out : List Env) (s : Shared) (H : Hp) (args : Args) (us : List Value) (xs : List V) (Q : VK) (E : XK),
    (gq = true → A.guards = some []) → Room k A → Env0 P w K mg base A out s H → BindsTo s fd args (ps.zip us) → Vals xs us → sp xs H Q E →
    codeAny (model P w) A (.call (.ref f) args) (CR CX out P w H s Q E) s
theorem FnQ.g {gq P w K mg base CX k f fd ps sp} (F : FnQ gq P w K mg base CX k f fd ps sp) : FnG P w K mg base CX k f fd ps sp :=
  ⟨F.len, fun A out s H args us xs Q E hg => F.go A out s H args us xs Q E fun _ => hg⟩
theorem FnQ.ok {P w K mg base CX k f fd ps sp} (F : FnQ false P w K mg base CX k f fd ps sp) : FnOk P w K mg base CX k f fd ps sp :=
  ⟨F.len, fun A out s H args us xs Q E => F.go A out s H args us xs Q E fun z => Bool.noConfusion z⟩
theorem FnQ.mono {gq P w K mg base CX j k f fd ps sp} (F : FnQ gq P w K mg base CX j f fd ps sp) (h : j ≤ k) : FnQ gq P w K mg base CX k f fd ps sp :=
  ⟨F.len, fun A out s H args us xs Q E hg hr => F.go A out s H args us xs Q E hg (hr.mono h)⟩
section
variable {gq : Bool} {X : Cx} {CX : CXT} {k j : Nat} {f : Addr} {fd : FuncData} {ps : List Str} {sp : Sp} {E : L2.St → XK} {x : Str} {p pos : Pos} {e : Expr} {es : List Expr} {t : TA}
theorem runQ {pins : List (Addr × Obj)} {σ : L2.St} {H : Hp} {s : Shared} {Q : VK} {us : List Value} {xs : List V}
    (F : FnQ gq X.prog X.w X.K X.mg X.base CX k f fd ps sp) (hgd : gq = true → X.A.guards = some []) (hr : Room k X.A) (hb : Binds X.K fd ps []) (hx : PassesAt CX X σ (E σ))
    (I : Inv X pins σ H s) (r : Vals xs us) (h : sp xs H Q (E σ)) : wpAny (model X.prog X.w) X.A (call (.ref f) us) (EP X pins σ Q) X.xe s := by
  have sz : us.length = ps.length := r.length.symm.trans (F.len _ _ _ _ h)
  have body := F.go X.A X.stack s H ⟨us, []⟩ us xs Q (E σ) hgd hr I.env0 (by have := hb s us I.kIn (by rw [List.append_nil]; exact sz); rwa [List.append_nil] at this) r h
  refine wpAny_call (codeAny_mono body fun res t hq => ?_)
  match res, hq with
  | .error e, hq => exact hx pins H s e t I hq
  | .ok (.ret u), hq => exact I.after hq
  | .ok .next, hq => exact hq.elim
  | .ok .brk, hq => exact hq.elim
  | .ok .cont, hq => exact hq.elim
theorem pe_q (F : FnQ gq X.prog X.w X.K X.mg X.base CX k f fd ps sp)
    (hgd : gq = true → X.A.guards = some []) (hr : Room k X.A) (hg : Gl X x) (hm : X.mg x = some (.ref f)) (hk : PySem.W.keepIn X.K (.ref f) = true)
    (hb : Binds X.K fd ps []) (hx : ∀ σ, PassesAt CX X σ (E σ)) (ha : PA X (e :: es) t)
    (hdb : (x == ("__debug__" : Str)) = false := by decide)
    (he : starEach (e :: es) X.env = (false, eval e X.env) :: starEach es X.env := by rfl)
    (hpl : (backTo pos (starEach es X.env)).any (·.1) = false := by rfl) :
    PE X (.Call (.Name x p) (e :: es) [] pos) (tCallS sp E t) :=
  ⟨fun pins s σ H Q I h => wpAny_Call_Name_kw (ld_glob I hg hm
    (PySem.W.callWith_K (h₀ := X.base) I.ok.mod.kin hk
      (thn (ha.run pos pins s σ H _ I h) fun us s1 ⟨xs, H1, I1, r, q⟩ => ⟨I1.kIn, runQ F hgd hr hb (hx σ) I1 r q⟩) he hpl) hdb)⟩
end
/-- a def that raises nothing -/
structure CalQ (gq : Bool) (P : Program) (w : World) (K : PySem.W.Frag) (mg : Str → Option Value) (base : Heap) (k : Nat) (x : Str) (ps : List Str) (sp : Sp) : Prop where
  ex : ∃ f fd, FnQ gq P w K mg base CX0 k f fd ps sp ∧ mg x = some (.ref f) ∧ PySem.W.keepIn K (.ref f) = true ∧ Binds K fd ps []
/-- a def that may raise -/
structure CalXQ (gq : Bool) (P : Program) (w : World) (K : PySem.W.Frag) (mg : Str → Option Value) (base : Heap) (k : Nat) (x : Str) (ps : List Str) (sp : Sp) : Prop where
  ex : ∃ f fd, FnQ gq P w K mg base (L2.CX P w) k f fd ps sp ∧ mg x = some (.ref f) ∧ PySem.W.keepIn K (.ref f) = true ∧ Binds K fd ps []
theorem CalQ.g {gq P w K mg base k x ps sp} (c : CalQ gq P w K mg base k x ps sp) : CalG P w K mg base k x ps sp :=
  let ⟨f, fd, F, r⟩ := c.ex
  ⟨f, fd, F.g, r⟩
theorem CalXQ.x {gq P w K mg base k x ps sp} (c : CalXQ gq P w K mg base k x ps sp) : CalX P w K mg base k x ps sp :=
  let ⟨f, fd, F, r⟩ := c.ex
  ⟨f, fd, F.g, r⟩
theorem okQ {gq : Bool} {CX : CXT} {P : Program} {w : World} {K : PySem.W.Frag} {mg : Str → Option Value} {base : Heap} {x qual : Str} {st : Stmt} {f : Addr} {fd : FuncData}
    {N ps : List Str} {k : Nat} {sp : Sp} (F : Fun K x qual st f fd) (S : FnScope N ps (defScope st)) (len : ∀ xs H Q E, sp xs H Q E → xs.length = ps.length)
    (hbody : ∀ (cdv : Value) (A : Around) (out : List Env) (s : Shared) (H : Hp) (xs : List V) (Q : VK) (E : XK), (gq = true → A.guards = some []) →
      Room k (A.deeper (envOfC qual (defScope st) s.heap.objs.size f cdv)) → sp xs H Q E →
      ∃ t, PSs (cxOf CX P w K mg base N qual (defScope st) f cdv A out s H E) (defBody st) t ∧
        t { nx := fun _ H' => Q .non H', rt := Q } (start N xs) H) :
    FnQ gq P w K mg base CX (k + 1) f fd ps sp := by
  obtain ⟨oc, od, kV, doc, pm, an, cdv, ct, osl, rfl, lk, hcd⟩ := F.ex
  constructor
  · exact len
  intro A out s H args us xs Q E gA hr e0 hb r hsp
  have old : ∀ b o, base.get? b = some o → s.heap.get? b = some o := fun b o q => (e0.bs b o q).1
  have KX : K.In s.heap := e0.mod.kin.keeps old
  have lim : s.heap.NoLimit := e0.mod.nolimit.keeps old
  refine codeAny_call_function hr.depth (KX _ _ lk) rfl S.co S.gen rfl (PySem.W.codeRec_of KX hcd) (hb _ _ _ _ ?_)
  refine wpAny_newFunctionEnv_cells S.kind (fun y hy => ?_) fun env he s1 x1 => ?_
  · have q := S.par y.1 (List.of_mem_zip (a := y.1) (b := y.2) hy).1
    exact q.elim .inl fun q => .inr ⟨q, PySem.W.cellsFrom_some _ _ _ (.inl q)⟩
  · subst he
    refine ⟨lim.keeps x1.toInCall.keep, codeAny_func ?_⟩
    obtain ⟨t, ht, hq⟩ := hbody cdv A out s H xs Q E gA (hr.deeper _) hsp
    have I := inv_start (CX := CX) (P := P) (w := w) (K := K) (mg := mg) (base := base) (N := N) (ps := ps) (E := E) S hr.hd e0 (len _ _ _ _ hsp) r x1
    refine wpAny_mono (ht.run [] s1 (start N xs) H _ I hq) (fun fl s2 hs => ?_) fun _ _ z => z
    match fl, hs with
    | .ret u, ⟨v, σ', H', J, rv, q⟩ => exact ⟨v, H', J.os, J.bare, J.base, J.hok, rv, q⟩
    | .next, ⟨σ', H', J, q⟩ => exact ⟨V.non, H', J.os, J.bare, J.base, J.hok, rfl, q⟩
    | .brk, ⟨_, _, _, q⟩ => exact q.elim
    | .cont, ⟨_, _, _, q⟩ => exact q.elim
theorem calOkQ {gq : Bool} {P : Program} {w : World} {K : PySem.W.Frag} {mg : Str → Option Value} {base : Heap} {x : Str} {st : Stmt} {N ps : List Str} {k : Nat} {sp : Sp}
    (D : DefAt K mg x st ps) (S : FnScope N ps (defScope st)) (len : ∀ xs H Q E, sp xs H Q E → xs.length = ps.length)
    (hbody : ∀ (f : Addr) (cdv : Value) (A : Around) (out : List Env) (s : Shared) (H : Hp) (xs : List V) (Q : VK) (E : XK), (gq = true → A.guards = some []) →
      Room k (A.deeper (envOfC x (defScope st) s.heap.objs.size f cdv)) → sp xs H Q E →
      ∃ t, PSs (cxOf CX0 P w K mg base N x (defScope st) f cdv A out s H E).nox (defBody st) t ∧
        t { nx := fun _ H' => Q .non H', rt := Q } (start N xs) H) : CalQ gq P w K mg base (k + 1) x ps sp := by
  obtain ⟨f, fd, F, m, b⟩ := D.ex
  refine ⟨f, fd, okQ F S len (fun cdv A out s H xs Q E g r h => ?_), m, F.kp, Binds.all b⟩
  obtain ⟨t, ht, q⟩ := hbody f cdv A out s H xs Q E g r h
  exact ⟨t, ht.nox, q⟩
theorem calOkXQ {gq : Bool} {P : Program} {w : World} {K : PySem.W.Frag} {mg : Str → Option Value} {base : Heap} {x : Str} {st : Stmt} {N ps : List Str} {k : Nat} {sp : Sp}
    (D : DefAt K mg x st ps) (S : FnScope N ps (defScope st)) (len : ∀ xs H Q E, sp xs H Q E → xs.length = ps.length)
    (hbody : ∀ (f : Addr) (cdv : Value) (A : Around) (out : List Env) (s : Shared) (H : Hp) (xs : List V) (Q : VK) (E : XK), (gq = true → A.guards = some []) →
      Room k (A.deeper (envOfC x (defScope st) s.heap.objs.size f cdv)) → sp xs H Q E →
      ∃ t, PSs (cxOf (L2.CX P w) P w K mg base N x (defScope st) f cdv A out s H E) (defBody st) t ∧
        t { nx := fun _ H' => Q .non H', rt := Q } (start N xs) H) : CalXQ gq P w K mg base (k + 1) x ps sp := by
  obtain ⟨f, fd, F, m, b⟩ := D.ex
  exact ⟨f, fd, okQ F S len (hbody f), m, F.kp, Binds.all b⟩
section
variable {gq : Bool} {X : Cx} {k j : Nat} {ps : List Str} {sp : Sp} {x : Str} {p pos : Pos} {e : Expr} {es : List Expr} {t : TA}
theorem pe_kq (c : CalQ gq X.prog X.w X.K X.mg X.base k x ps sp) (hgd : gq = true → X.A.guards = some []) (hr : Room j X.A) (hk : k ≤ j) (hg : Gl X x) (ha : PA X (e :: es) t)
    (hdb : (x == ("__debug__" : Str)) = false := by decide)
    (he : starEach (e :: es) X.env = (false, eval e X.env) :: starEach es X.env := by rfl)
    (hpl : (backTo pos (starEach es X.env)).any (·.1) = false := by rfl) :
    PE X (.Call (.Name x p) (e :: es) [] pos) (tCallS sp (fun _ => E0) t) := by
  obtain ⟨f, fd, F, m, kp, b⟩ := c.ex
  exact pe_q F hgd (hr.mono hk) hg m kp b (fun σ pins H s e s' I c => c.elim) ha hdb he hpl
theorem pe_kxq {W : WX} (c : CalXQ gq X.prog X.w X.K X.mg X.base k x ps sp) (tk : Takes X W) (hgd : gq = true → X.A.guards = some []) (hr : Room j X.A) (hk : k ≤ j) (hg : Gl X x) (ha : PA X (e :: es) t)
    (hdb : (x == ("__debug__" : Str)) = false := by decide)
    (he : starEach (e :: es) X.env = (false, eval e X.env) :: starEach es X.env := by rfl)
    (hpl : (backTo pos (starEach es X.env)).any (·.1) = false := by rfl) :
    PE X (.Call (.Name x p) (e :: es) [] pos) (tCallS sp (WE W) t) := by
  obtain ⟨f, fd, F, m, kp, b⟩ := c.ex
  exact pe_q F hgd (hr.mono hk) hg m kp b (fun σ => passAt tk σ) ha hdb he hpl
end
end G

set_option Elab.async false
set_option linter.all false
set_option maxRecDepth 100000
set_option maxHeartbeats 4000000
namespace G
open PySem PySem.Spec PyProof.Rows L2
/-! ## all but the tables of code objects stays -/
mutual
theorem Dx.ext {H H' : Hp} (s : LamX.ExtN H H') : ∀ {x : V} {d : PyData}, Dx H x d → Dx H' x d
  | _, _, .non => .non
  | _, _, .bl b => .bl b
  | _, _, .int i => .int i
  | _, _, .str x => .str x
  | _, _, .lst h a => .lst (s _ _ h fun _ z => by cases z) (DxAll.ext s a)
  | _, _, .tup h a => .tup (s _ _ h fun _ z => by cases z) (DxAll.ext s a)
  | _, _, .dct h a => .dct (s _ _ h fun _ z => by cases z) (DxKv.ext s a)
theorem DxAll.ext {H H' : Hp} (s : LamX.ExtN H H') : ∀ {xs : List V} {ds : List PyData}, DxAll H xs ds → DxAll H' xs ds
  | _, _, .nil => .nil
  | _, _, .cons a b => .cons (Dx.ext s a) (DxAll.ext s b)
theorem DxKv.ext {H H' : Hp} (s : LamX.ExtN H H') : ∀ {xs : List (Key × V)} {ds : List (PyData × PyData)}, DxKv H xs ds → DxKv H' xs ds
  | _, _, .nil => .nil
  | _, _, .cons a b => .cons (Dx.ext s a) (DxKv.ext s b)
end
theorem ext_of_same {H H' : Hp} (s : Same H H') : LamX.ExtN H H' := fun b o h _ => s b o h
theorem ext_hide {d : Addr} {H H' : Hp} (e : LamX.ExtN H H') : LamX.ExtN (hide d H) (hide d H') := fun b o h n => by
  by_cases q : b = d
  · subst q
    rw [hide_at] at h
    cases h
  · rw [hide_ne q] at h ⊢
    exact e b o h n
theorem dice_ext {d : Addr} {H H' : Hp} (dd : DiceAt H d) (e : LamX.ExtN H H') : DiceAt H' d :=
  let ⟨l, s, c, h⟩ := dd
  ⟨l, s, c, e _ _ h fun _ z => by cases z⟩
theorem tabs_mv {T : List (Addr × Str)} {d : Addr} {H H' : Hp} (t : LamX.Tabs T H) (dd : DiceAt H d) (m : Mv d H H') : LamX.Tabs T H' := fun p hp => by
  obtain ⟨l, s, c, hd⟩ := dd
  obtain ⟨ps, h1, h2, h3⟩ := t p hp
  have ne1 : p.1 ≠ d := fun e => by
    rw [e, hd] at h1
    cases h1
  refine ⟨ps, m.get ne1 h1, h2, fun pos cv hc => ?_⟩
  obtain ⟨c0, e1, e2⟩ := h3 pos cv hc
  refine ⟨c0, e1, m.get (fun e => ?_) e2⟩
  rw [e, hd] at e2
  unfold LamX.CodeO at e2
  cases e2
theorem tabs_put {T : List (Addr × Str)} {p : Addr} {H : Hp} {xs : List V} {o : HO} (t : LamX.Tabs T H) (hp : H p = some (.lst xs)) : LamX.Tabs T (upd H p o) := fun q hq => by
  obtain ⟨ps, h1, h2, h3⟩ := t q hq
  have ne1 : q.1 ≠ p := fun e => by
    rw [e, hp] at h1
    cases h1
  refine ⟨ps, by rw [upd_ne ne1]; exact h1, h2, fun pos cv hc => ?_⟩
  obtain ⟨c0, e1, e2⟩ := h3 pos cv hc
  refine ⟨c0, e1, ?_⟩
  rw [upd_ne (fun e => ?_)]
  · exact e2
  · rw [e, hp] at e2
    unfold LamX.CodeO at e2
    cases e2
structure MvT (T : List (Addr × Str)) (d : Addr) (H H' : Hp) : Prop where
  ext : LamX.ExtN (hide d H) (hide d H')
  dice : DiceAt H' d
  tabs : LamX.Tabs T H'
theorem MvT.refl {T : List (Addr × Str)} {d : Addr} {H : Hp} (dd : DiceAt H d) (t : LamX.Tabs T H) : MvT T d H H := ⟨LamX.ExtN.refl _, dd, t⟩
theorem MvT.trans {T : List (Addr × Str)} {d : Addr} {H H1 H2 : Hp} (a : MvT T d H H1) (b : MvT T d H1 H2) : MvT T d H H2 := ⟨a.ext.trans b.ext, b.dice, b.tabs⟩
theorem MvT.mv {T : List (Addr × Str)} {d : Addr} {H H1 H2 : Hp} (a : MvT T d H H1) (b : Mv d H1 H2) : MvT T d H H2 := ⟨a.ext.trans (ext_of_same b.same), b.dice, tabs_mv a.tabs a.dice b⟩
theorem MvT.same {T : List (Addr × Str)} {d : Addr} {H H1 H2 : Hp} (a : MvT T d H H1) (b : Same H1 H2) : MvT T d H H2 := a.mv ((Mv.refl a.dice).ofSame b)
theorem MvT.lam {T : List (Addr × Str)} {d : Addr} {H H1 H2 : Hp} (a : MvT T d H H1) (e : LamX.ExtN H1 H2) (t : LamX.Tabs T H2) : MvT T d H H2 := ⟨a.ext.trans (ext_hide e), dice_ext a.dice e, t⟩
theorem MvT.dx {T : List (Addr × Str)} {d : Addr} {H H' : Hp} {x : V} {dat : PyData} (m : MvT T d H H') (h : Dx (hide d H) x dat) : Dx (hide d H') x dat := Dx.ext m.ext h
theorem MvT.new {T : List (Addr × Str)} {d p : Addr} {H H' : Hp} {o : HO} (a : MvT T d H H') (n : H' p = none) : MvT T d H (upd H' p o) := a.same (same_new n)
theorem MvT.put {T : List (Addr × Str)} {d p : Addr} {H H' : Hp} {xs : List V} {o : HO} (a : MvT T d H H') (n : H p = none) (ne : p ≠ d) (hp : H' p = some (.lst xs)) : MvT T d H (upd H' p o) := by
  refine ⟨fun b u e k => ?_, ?_, tabs_put a.tabs hp⟩
  · have nb : b ≠ p := fun q => by
      rw [q, hide_ne ne, n] at e
      cases e
    have q := a.ext b u e k
    by_cases h : b = d
    · subst h
      rw [hide_at] at q
      cases q
    · rw [hide_ne h] at q ⊢
      rw [upd_ne nb]
      exact q
  · obtain ⟨l, s, c, q⟩ := a.dice
    exact ⟨l, s, c, by rw [upd_ne ne.symm]; exact q⟩
/-- what is a list, kept through the making of a lambda -/
theorem ext_lst {H H' : Hp} {p : Addr} {xs : List V} (e : LamX.ExtN H H') (h : H p = some (.lst xs)) : H' p = some (.lst xs) := e _ _ h fun _ z => by cases z
/-! ## the empty dict: its text, and that no number is equal to it -/
def ShwX (d : PyData) : Prop := Shw d ∨ d = .dict []
section
variable {X : Cx}
theorem dx_empty {pins : List (Addr × Obj)} {σ : L2.St} {H : Hp} {s : Shared} {x : V} {u : Value} (I : Inv X pins σ H s) (h : Dx H x (.dict [])) (r : RelV x u) :
    ∃ a o n, u = .ref a ∧ (a == sysModules) = false ∧ s.heap.get? a = some o ∧ o.cls = .type "dict" ∧ o.data = .dict #[] n := by
  cases h with
  | dct ha hk =>
    cases hk
    obtain ⟨_, hs, vs, kv, D⟩ := I.hok _ _ ha
    cases (show u = Value.ref _ from r)
    have ev : vs = [] := by
      cases kv
      rfl
    subst ev
    obtain ⟨o, es, n, ho, hx, hd, _, hp, _⟩ := D
    refine ⟨_, o, n, rfl, hs, ho, hx.1, ?_⟩
    rw [hd]
    have e2 : es.toList = [] := by
      cases q : es.toList with
      | nil => rfl
      | cons z r =>
        rw [q] at hp
        cases hp
    have : es = #[] := by
      cases es
      simpa using e2
    rw [this]
def rReprX : List V → Hp → VK → Prop := fun xs H Q => ∃ (x : V) (d : PyData), xs = [x] ∧ Dx H x d ∧ ShwX d ∧ Q (.str d.shown) H
theorem call_reprX (hgd : X.A.guards = some []) (hu : X.A.units + 64 < cLine) : CallR X (.builtin "repr") rReprX := by
  intro pins s σ H xs us Q I r h
  obtain ⟨x, d, rfl, hx, hw, q⟩ := h
  rcases hw with hw | rfl
  · exact call_repr hgd hu pins s σ H _ us Q I r ⟨x, d, rfl, hx.dp hw.noDict, hw, q⟩
  · obtain ⟨u, rfl, ru⟩ := vals1 r
    obtain ⟨a, o, n, rfl, hs, ho, hc, hd⟩ := dx_empty I hx ru
    have rd : Reads s.heap (.ref a) (.dict []) (a :: [] ++ []) := .dict ho hc hd .nil .nil
    refine repr_of_reads' rd (by simp [PyData.showable, PyData.showableKv]) (fun _ z => ?_) hgd (by simp [PyData.depth, PyData.depthKv]; omega) (fun _ _ e => e) (fun h' t tk kp => ⟨.str _, H, I.kept kp, ⟨t, rfl⟩, q⟩) (by decide +kernel)
    simp at z
    rw [z] at hs
    simp at hs
end
end G
namespace PySem.SeqAt
open MeetsSeq
open AutoSeq1 (wpAny_loadPart')
theorem int_eq_declines_dict (b : Int) (u : Tok) (l : Addr) (es : Array DictEntry) (n : Nat) (dd : Option Addr) (sl : Array (Option Value)) :
    Meets (Builtin.«int.__eq__» ⟨[.int b u, .ref l], []⟩) (fun _ R s => s.heap.get? l = some { cls := .type "dict", dict := dd, data := .dict es n, slots := sl } ∧ R (.ok (.ret .notImplemented)) s) :=
  .of_wp fun prog w A R s h => by obtain ⟨hp, g, d, tk, os⟩ := s; obtain ⟨hl, h⟩ := h; wp_walk using wpAny_loadPart' hl, wpAny_load hl; exact ⟨_, rfl, h⟩
theorem dict_eq_declines_int (l : Addr) (es : Array DictEntry) (n : Nat) (dd : Option Addr) (sl : Array (Option Value)) (b : Int) (u : Tok) :
    Meets (Builtin.«dict.__eq__» ⟨[.ref l, .int b u], []⟩) (fun _ R s => s.heap.get? l = some { cls := .type "dict", dict := dd, data := .dict es n, slots := sl } ∧ R (.ok (.ret .notImplemented)) s) :=
  .of_wp fun prog w A R s h => by obtain ⟨hp, g, d, tk, os⟩ := s; obtain ⟨hl, h⟩ := h; have f1 := F.sub_int_dict; wp_walk using wpAny_loadPart' hl; exact ⟨_, rfl, h⟩
section
variable {A : Around} {s : Shared}
theorem RcAt.int_dict {l : Addr} {o : Obj} {es : Array DictEntry} {n : Nat} (b : Int) (u : Tok) (ho : s.heap.get? l = some o) (hc : o.cls = .type "dict") (hd : o.data = .dict es n) (hu : A.units < cLine) : RcAt A s (.int b u) (.ref l) false := fun prog w E Q h => by
  obtain ⟨cls, dd, data, sl⟩ := o
  simp only at hc hd
  subst hc hd
  exact rc_eq_decline_or (k := false) (typeIs_int s b u) ⟨_, ho, rfl⟩ (by decide) F.sub_dict_int F.slot_int_eq F.slot_dict_eq_refl
    (fun _ hq => call_meets F.slot_int_eq (typeIs_int s b u) F.entry_int_eq (F.args_int_eq_2 _ _) (int_eq_declines_dict b u l es n dd sl) ⟨ho, hq⟩)
    (fun _ hq => call_meets F.slot_dict_eq_refl ⟨_, ho, rfl⟩ F.entry_dict_eq (F.args_dict_eq_2 _ _) (dict_eq_declines_int l es n dd sl b u) ⟨ho, hq⟩)
    (fun _ hq => wpAny_of_eq (rfl : isSame (.int b u) (.ref l) = pure false) hq) (.inr hu) h
theorem EqAt.int_dict {l : Addr} {o : Obj} {es : Array DictEntry} {n : Nat} (b : Int) (u : Tok) (ho : s.heap.get? l = some o) (hc : o.cls = .type "dict") (hd : o.data = .dict es n) (hu : A.units < cLine) : EqAt A s (.int b u) (.ref l) false := fun prog w E Q h => by
  unfold eqBool
  refine wpAny_holding ?_
  refine wpAny_ite_split (fun hab => absurd (eq_of_beq hab) nofun) (fun _ => ?_)
  exact wpAny_bind (RcAt.int_dict b u ho hc hd hu prog w E _ (wpAny_truthy_bool h))
end
end PySem.SeqAt
namespace G
open PySem PySem.Spec PyProof.Rows L2
section
variable {X : Cx}
/-- x in (i, j) for data of any kind, the empty dict among them -/
def rInTwo (K : PySem.W.Frag) : R2 := fun x y H Q => ∃ (a : Addr) (i j : Int) (d : PyData), y = .ref a ∧ H a = some (.tup [.int i, .int j]) ∧ Dx H x d ∧ ((d.hasDict = false ∧ SeqAt.shaped d = true) ∨ d = .dict []) ∧
  Q (.bl (([.int i, .int j] : List PyData).any fun z => PyData.eqv z d)) H
theorem op_inTwo (hu : X.A.units + 65 < cLine) : OpR X (compareOp .In) (rInTwo X.K) := by
  intro pins s σ H x y v u Q I rx ry h
  obtain ⟨a, i, j, d, rfl, ha, hx, hd, q⟩ := h
  have hT : Dp X.K H (.ref a) (.tuple [.int i, .int j]) := .tup (SqT.of ha) (.cons (.int i) (.cons (.int j) .nil))
  rcases hd with ⟨nd, sd⟩ | rfl
  · obtain ⟨as, r1⟩ := Dp.reads I d x v (hx.dp nd) rx
    obtain ⟨bs, r2⟩ := Dp.reads I _ _ u hT ry
    refine SeqAt.in_tuple_reads r2 r1 (by simp [PyData.canLayAll0, PyData.canLay0]) (SeqAt.canLay_of_shaped sd) ?_ ⟨.bl _, H, I, rfl, q⟩
    simp only [PyData.depthAll, PyData.depth]
    omega
  · obtain ⟨b, o, n, rfl, _, ho, hc, hdt⟩ := dx_empty I hx rx
    obtain ⟨as, r2⟩ := Dp.reads I _ _ u hT ry
    cases r2 with
    | tuple h1 h2 h3 h4 =>
      refine SeqAt.in_tupleAt (fun _ => false) ⟨_, h1, h2, _, h3⟩ (fun w hw => ?_) ⟨.bl _, H, I, rfl, ?_⟩
      · have hw' : w ∈ _ := (Array.mem_toList_iff ..).mpr hw
        have : ∃ k t, w = Value.int k t := by
          revert hw' h4
          generalize Array.toList _ = l
          intro h4 hw'
          cases h4 with
          | cons a1 r1 =>
            cases r1 with
            | cons a2 r2 =>
              cases r2
              cases a1
              cases a2
              rcases List.mem_cons.mp hw' with e | e
              · exact ⟨_, _, e⟩
              · rcases List.mem_cons.mp e with e | e
                · exact ⟨_, _, e⟩
                · cases e
        obtain ⟨k, t, rfl⟩ := this
        exact SeqAt.EqAt.int_dict k t ho hc hdt (by show X.A.units + 1 < cLine; omega)
      · have e1 : (([.int i, .int j] : List PyData).any fun z => PyData.eqv z (.dict [])) = false := by simp [PyData.eqv]
        rw [e1] at q
        rw [show Array.any _ (fun _ => false) = false by simp]
        exact q
end
/-! ## a def whose code object is known, for the lambdas in it -/
structure DefAtC (K : PySem.W.Frag) (mg : Str → Option Value) (x : Str) (st : Stmt) (ps : List Str) (c : Addr) : Prop where
  ex : ∃ (f : Addr) (oc : Value) (od an : Option Addr) (osl : Array (Option Value)) (kV doc pm ct : Value),
    K.lookup f = some ⟨oc, od, .func (PySem.W.fnOf x x (defArgs st) (defBody st) (defScope st) .none kV doc pm an (.ref c) ct), osl⟩ ∧ PySem.W.codeIn K (.ref c) x = true ∧ PySem.W.keepIn K (.ref f) = true ∧ mg x = some (.ref f) ∧
    ∀ us : List Value, us.length = ps.length → bindArgs (PySem.W.fnOf x x (defArgs st) (defBody st) (defScope st) .none kV doc pm an (.ref c) ct) ⟨us, []⟩ = pure (ps.zip us)
theorem defAtC {K : PySem.W.Frag} {h : Heap} {mg : Str → Option Value} {x : Str} {st : Stmt} {ps : List Str} {f c : Addr} {oc : Value} {od an : Option Addr} {osl : Array (Option Value)}
    {kV doc pm ct : Value} (KX : K.In h) (gl : h.Ns mainGlobals mg)
    (hb : ∀ us : List Value, us.length = ps.length → bindArgs (PySem.W.fnOf x x (defArgs st) (defBody st) (defScope st) .none kV doc pm an (.ref c) ct) ⟨us, []⟩ = pure (ps.zip us))
    (a : PySem.W.nsIn K mainGlobals x = some (some (.ref f)))
    (l : K.lookup f = some ⟨oc, od, .func (PySem.W.fnOf x x (defArgs st) (defBody st) (defScope st) .none kV doc pm an (.ref c) ct), osl⟩)
    (cd : PySem.W.codeIn K (.ref c) x = true) (k : PySem.W.keepIn K (.ref f) = true) : DefAtC K mg x st ps c :=
  ⟨f, oc, od, an, osl, kV, doc, pm, ct, l, cd, k, PySem.W.mg_of KX gl a, hb⟩
theorem okGC {P : Program} {w : World} {K : PySem.W.Frag} {mg : Str → Option Value} {base : Heap} {x qual : Str} {st : Stmt} {f c : Addr}
    {oc : Value} {od an : Option Addr} {osl : Array (Option Value)} {kV doc pm ct : Value}
    {N ps : List Str} {k : Nat} {sp : Sp} (lk : K.lookup f = some ⟨oc, od, .func (PySem.W.fnOf x qual (defArgs st) (defBody st) (defScope st) .none kV doc pm an (.ref c) ct), osl⟩) (hcd : PySem.W.codeIn K (.ref c) qual = true)
    (S : FnScope N ps (defScope st)) (len : ∀ xs H Q E, sp xs H Q E → xs.length = ps.length)
    (hbody : ∀ (A : Around) (out : List Env) (s : Shared) (H : Hp) (xs : List V) (Q : VK) (E : XK), A.guards = some [] →
      Room k (A.deeper (envOfC qual (defScope st) s.heap.objs.size f (.ref c))) → sp xs H Q E →
      ∃ t, PSs (cxOf CX0 P w K mg base N qual (defScope st) f (.ref c) A out s H E).nox (defBody st) t ∧
        t { nx := fun _ H' => Q .non H', rt := Q } (start N xs) H) :
    FnG P w K mg base CX0 (k + 1) f (PySem.W.fnOf x qual (defArgs st) (defBody st) (defScope st) .none kV doc pm an (.ref c) ct) ps sp := by
  constructor
  · exact len
  intro A out s H args us xs Q E gA hr e0 hb r hsp
  have old : ∀ b o, base.get? b = some o → s.heap.get? b = some o := fun b o q => (e0.bs b o q).1
  have KX : K.In s.heap := e0.mod.kin.keeps old
  have lim : s.heap.NoLimit := e0.mod.nolimit.keeps old
  refine codeAny_call_function hr.depth (KX _ _ lk) rfl S.co S.gen rfl (PySem.W.codeRec_of KX hcd) (hb _ _ _ _ ?_)
  refine wpAny_newFunctionEnv_cells S.kind (fun y hy => ?_) fun env he s1 x1 => ?_
  · have q := S.par y.1 (List.of_mem_zip (a := y.1) (b := y.2) hy).1
    exact q.elim .inl fun q => .inr ⟨q, PySem.W.cellsFrom_some _ _ _ (.inl q)⟩
  · subst he
    refine ⟨lim.keeps x1.toInCall.keep, codeAny_func ?_⟩
    obtain ⟨t, ht, hq⟩ := hbody A out s H xs Q E gA (hr.deeper _) hsp
    have I := inv_start (CX := CX0) (P := P) (w := w) (K := K) (mg := mg) (base := base) (N := N) (ps := ps) (E := E) S hr.hd e0 (len _ _ _ _ hsp) r x1
    refine wpAny_mono (ht.nox.run [] s1 (start N xs) H _ I hq) (fun fl s2 hs => ?_) fun _ _ z => z
    match fl, hs with
    | .ret u, ⟨v, σ', H', J, rv, q⟩ => exact ⟨v, H', J.os, J.bare, J.base, J.hok, rv, q⟩
    | .next, ⟨σ', H', J, q⟩ => exact ⟨V.non, H', J.os, J.bare, J.base, J.hok, rfl, q⟩
    | .brk, ⟨_, _, _, q⟩ => exact q.elim
    | .cont, ⟨_, _, _, q⟩ => exact q.elim
theorem calOkC {P : Program} {w : World} {K : PySem.W.Frag} {mg : Str → Option Value} {base : Heap} {x : Str} {st : Stmt} {N ps : List Str} {k : Nat} {sp : Sp} {c : Addr}
    (D : DefAtC K mg x st ps c) (S : FnScope N ps (defScope st)) (len : ∀ xs H Q E, sp xs H Q E → xs.length = ps.length)
    (hbody : ∀ (f : Addr) (A : Around) (out : List Env) (s : Shared) (H : Hp) (xs : List V) (Q : VK) (E : XK), A.guards = some [] →
      Room k (A.deeper (envOfC x (defScope st) s.heap.objs.size f (.ref c))) → sp xs H Q E →
      ∃ t, PSs (cxOf CX0 P w K mg base N x (defScope st) f (.ref c) A out s H E).nox (defBody st) t ∧
        t { nx := fun _ H' => Q .non H', rt := Q } (start N xs) H) : CalG P w K mg base (k + 1) x ps sp := by
  obtain ⟨f, oc, od, an, osl, kV, doc, pm, ct, l, cd, kp, m, b⟩ := D.ex
  exact ⟨f, _, okGC l cd S len (hbody f), m, kp, Binds.all b⟩
/-- the law's own def, at the address that the row names; the tables of code objects are known -/
theorem lawOkT {P : Program} {w : World} {K : PySem.W.Frag} {mg : Str → Option Value} {x y : Str} {st : Stmt} {N : List Str} {k : Nat} {sp : Sp} {fa : Addr} {cs : List (Addr × Addr)}
    (hf : mg x = some (.ref fa)) (D : DefAt K mg x st [y]) (S : FnScope N [y] (defScope st)) (len : ∀ xs H Q E, sp xs H Q E → xs.length = [y].length)
    (hbody : ∀ base : Heap, K.In base → base.Ns mainGlobals mg → (∀ p ∈ cs, LamX.TabB base mg p.1 p.2) → ∀ (f : Addr) (cdv : Value) (A : Around) (out : List Env) (s : Shared) (H : Hp) (xs : List V) (Q : VK) (E : XK), A.guards = some [] →
      Room k (A.deeper (envOfC x (defScope st) s.heap.objs.size f cdv)) → sp xs H Q E →
      ∃ t, PSs (cxOf CX0 P w K mg base N x (defScope st) f cdv A out s H E).nox (defBody st) t ∧
        t { nx := fun _ H' => Q .non H', rt := Q } (start N xs) H) :
    ∃ fd : FuncData, (∀ (s : Shared) (u : Value), BindsTo s fd ⟨[u], []⟩ [(y, u)]) ∧
      ∀ base : Heap, K.In base → base.Ns mainGlobals mg → (∀ p ∈ cs, LamX.TabB base mg p.1 p.2) → FnG P w K mg base CX0 (k + 1) fa fd [y] sp := by
  obtain ⟨f, fd, F, m, b⟩ := D.ex
  obtain rfl : f = fa := by
    rw [m] at hf
    cases hf
    rfl
  exact ⟨fd, fun s u => .of_eq (b [u] rfl), fun base h1 h2 h3 => okG F S len (hbody base h1 h2 h3 f)⟩
theorem lst_in {d p : Addr} {H : Hp} {ds : List PyData} (h : Dx (hide d H) (.ref p) (.list ds)) : ∃ xs, H p = some (.lst xs) ∧ p ≠ d ∧ DxAll (hide d H) xs ds := by
  cases h with
  | lst h1 h2 =>
    refine ⟨_, hide_le _ _ h1, fun e => ?_, h2⟩
    rw [e, hide_at] at h1
    cases h1
theorem newT {T : List (Addr × Str)} {d p : Addr} {H H' : Hp} {xs : List V} {ds : List PyData} (m : MvT T d H H') (n : H' p = none) (a : DxAll (hide d H') xs ds) :
    MvT T d H (upd H' p (.tup xs)) ∧ Dx (hide d (upd H' p (.tup xs))) (.ref p) (.tuple ds) ∧ ∀ {x : V} {dat : PyData}, Dx (hide d H') x dat → Dx (hide d (upd H' p (.tup xs))) x dat :=
  ⟨m.new n, .tup (by rw [hide_ne (m.dice.ne n)]; exact upd_same) (a.grow (fresh_same m.dice n)), fun h => h.grow (fresh_same m.dice n)⟩
theorem newL {T : List (Addr × Str)} {d p : Addr} {H H' : Hp} {xs : List V} {ds : List PyData} (m : MvT T d H H') (n : H' p = none) (a : DxAll (hide d H') xs ds) :
    MvT T d H (upd H' p (.lst xs)) ∧ Dx (hide d (upd H' p (.lst xs))) (.ref p) (.list ds) ∧ ∀ {x : V} {dat : PyData}, Dx (hide d H') x dat → Dx (hide d (upd H' p (.lst xs))) x dat :=
  ⟨m.new n, .lst (by rw [hide_ne (m.dice.ne n)]; exact upd_same) (a.grow (fresh_same m.dice n)), fun h => h.grow (fresh_same m.dice n)⟩
theorem newD {T : List (Addr × Str)} {d p : Addr} {H H' : Hp} (m : MvT T d H H') (n : H' p = none) :
    MvT T d H (upd H' p (.dK [])) ∧ Dx (hide d (upd H' p (.dK []))) (.ref p) (.dict []) ∧ ∀ {x : V} {dat : PyData}, Dx (hide d H') x dat → Dx (hide d (upd H' p (.dK []))) x dat :=
  ⟨m.new n, .dct (by rw [hide_ne (m.dice.ne n)]; exact upd_same) .nil, fun h => h.grow (fresh_same m.dice n)⟩
/-- nothing but a table stood at p -/
def NewAt (H : Hp) (p : Addr) : Prop := ∀ o, H p = some o → ∃ ps, o = .tbl ps
theorem MvT.newAt {T : List (Addr × Str)} {d p : Addr} {H H' : Hp} (a : MvT T d H H') (n : H' p = none) : NewAt H p := fun o ho => by
  have ne := a.dice.ne n
  refine Classical.byContradiction fun z => ?_
  have q := a.ext p o (by rw [hide_ne ne]; exact ho) fun ps e => z ⟨ps, e⟩
  rw [hide_ne ne, n] at q
  cases q
theorem MvT.put2 {T : List (Addr × Str)} {d p : Addr} {H H' : Hp} {xs : List V} {o : HO} (a : MvT T d H H') (n : NewAt H p) (ne : p ≠ d) (hp : H' p = some (.lst xs)) : MvT T d H (upd H' p o) := by
  refine ⟨fun b u e k => ?_, ?_, tabs_put a.tabs hp⟩
  · have nb : b ≠ p := fun q => by
      rw [q, hide_ne ne] at e
      obtain ⟨ps, z⟩ := n u e
      exact k ps z
    have q := a.ext b u e k
    by_cases h : b = d
    · subst h
      rw [hide_at] at q
      cases q
    · rw [hide_ne h] at q ⊢
      rw [upd_ne nb]
      exact q
  · obtain ⟨l, s, c, q⟩ := a.dice
    exact ⟨l, s, c, by rw [upd_ne ne.symm]; exact q⟩
theorem strsX {H : Hp} {p : Addr} (ws : List Str) (h : H p = some (.lst (ws.map V.str))) (K : PySem.W.Frag) : Dp K H (.ref p) (.list (ws.map .str)) := by
  refine .lst (SqL.of h) ?_
  clear h
  induction ws with
  | nil => exact .nil
  | cons b r ih => exact .cons (.str b) ih
theorem shaped_strs (ws : List Str) (h : ∀ w ∈ ws, PyData.strOk w = true) : SeqAt.shaped (.list (ws.map .str)) = true := by
  show (PyData.canLay0 (.list _) && decide (PyData.depth (.list _) ≤ 64)) = true
  rw [Bool.and_eq_true_iff]
  refine ⟨by simp only [PyData.canLay0]; exact canAll _ _ fun b hb => by simp [PyData.canLay0, h b hb], decide_eq_true ?_⟩
  have := depthAll0 0 PyData.str ws fun b _ => by simp [PyData.depth]
  simp only [PyData.depth]
  omega
theorem eqv_strs (ws : List Str) : PyData.eqv (.list (ws.map .str)) (.list (ws.map .str)) = true := by
  simp only [PyData.eqv]
  induction ws with
  | nil => simp [PyData.eqvAll]
  | cons b r ih => simp [PyData.eqvAll, PyData.eqv, ih]
theorem hu65 {k : Nat} {A : Around} (hr : Room k A) : A.units + 65 < cLine := by
  have := hr.un
  omega
def firstW (ws : List Str) : Str := (ws.filter fun w => !decide (w = ("" : Str))).headD ("" : Str)
def spFirst : Sp := fun vs H Q _ => ∃ (a : Addr) (ws : List Str), vs = [.ref a] ∧ H a = some (.lst (ws.map V.str)) ∧ ws.length ≤ 100 ∧ (∀ w ∈ ws, PyData.strOk w = true) ∧ ∀ H', Same H H' → Q (.str (firstW ws)) H'
end G

set_option Elab.async false
set_option linter.all false
set_option maxRecDepth 100000
set_option maxHeartbeats 4000000
namespace G
open PySem PySem.Spec PyProof.Rows L2
/-! ## the end of a row whose law makes lambdas: tables of code objects are tracked -/
theorem endGT {l : PySem.W.OpenLaw} {n k : Nat} {q : Program} {loose : List Str} {XP : (Str → Option Value) → Heap → Prop} {YP : World → Heap → Prop} {d : DefRec}
    {K : Params → PySem.W.Frag} {x : Str}
    (hn : l.most = some n) (hn2 : n ≤ sizeLine) (hdf : d.params.defaults = []) (hr : Room k callerA)
    (hY : ∀ (w : World) (h : Heap), YP w h → (K w.params).In h)
    (F : ∀ (w : World) (mg : Str → Option Value) (fa : Addr) (h : Heap), (∀ (d2 : DefRec) (x : Str) (c P : Addr), (recsOf q).find? (fun e => e.name == x) = some d2 → PySem.W.tabIn (K w.params) x = some (c, P) → PySem.W.CodeHd h c P ∧ h.get? P = some { cls := .none, data := .fields #[] }) → (K w.params).In h → h.Ns mainGlobals mg → mg d.name = some (.ref fa) →
      ∃ (fd : FuncData) (cs : List (Addr × Addr)) (sp : Sp), (∀ p ∈ cs, h.get? p.2 = some { cls := .none, data := .fields #[] }) ∧ (∀ p ∈ cs, (K w.params).lookup p.2 = none) ∧ (∀ p ∈ cs, PySem.W.CodeHd h p.1 p.2) ∧
        (∀ (s : Shared) (u : Value), BindsTo s fd ⟨[u], []⟩ [(x, u)]) ∧
        (∀ (H : Hp) (a : Addr) (ns : List Int), ns.length ≤ n → (∀ p ∈ cs, H p.2 = some (.tbl #[])) → SqL (K w.params) H a (ns.map V.int) → sp [.ref a] H (fun v _ => v = .bl true) fun _ _ _ => False) ∧
        ∀ base : Heap, (K w.params).In base → base.Ns mainGlobals mg → (∀ p ∈ cs, LamX.TabB base mg p.1 p.2) → FnG l.prog w (K w.params) mg base CX0 k fa fd [x] sp) :
    PySem.W.WalkO q loose XP YP l.row.toRowW d [] (fun f vs => PySem.call f vs) := by
  refine Att.attach_call hn hdf fun w s0 s1 mg mb fa o pm cd doc a vs ns gr Y ho hd hcd hmg ha hi hl hgn => ?_
  have KX := hY w _ Y
  obtain ⟨fd, cs, sp, tb, tnot, tcode, hbind, hsp, F⟩ := F w mg fa _ (fun d2 x c P h1 h2 => PySem.W.tab_of gr.T KX h1 h2) KX gr.T.g hmg
  have rv := vals_ints hi
  have lenV := hi.length
  have nsz : ns.length ≤ sizeLine := Nat.le_trans hl hn2
  -- the tables' places
  have tabAt : ∀ b, b ∈ cs.map Prod.snd → s1.heap.get? b = some { cls := .none, data := .fields #[] } := fun b hb => by
    obtain ⟨p, hp, rfl⟩ := List.mem_map.mp hb
    exact tb p hp
  have inTab : ∀ p ∈ cs, p.2 ∈ cs.map Prod.snd := fun p hp => List.mem_map.mpr ⟨p, hp, rfl⟩
  have notA : a ∉ cs.map Prod.snd := fun z => by
    have q := tabAt a z
    rw [ha] at q
    exact nomatch (congrArg Obj.data (Option.some.inj q) : Data.seq vs.toArray _ = Data.fields #[])
  have main : ∀ T : Hp, (∀ p ∈ cs, T p.2 = some (.tbl #[])) → (∀ b, T b = none ∨ b ∈ cs.map Prod.snd ∨ ∃ ob xs, T b = some (.frz ob (.lst xs))) → SqL (K w.params) T a (ns.map V.int) → HOk l.prog w T s1.heap →
      (∀ b, T b ≠ none → b = a ∨ b ∈ cs.map Prod.snd) → (T a ≠ none → (K w.params).lookup a = none) →
      codeAny (model l.prog w) callerA (.call (.ref fa) ⟨[.ref a], []⟩)
        (fun r t => r = .ok (.ret (.bool true)) ∧ OldK s1.heap t.heap ∧ t.os = s1.os ∧ AllBare t.gens) s1 := by
    intro T tT only hS hok only_a notK
    -- what is no list and no table is not tracked
    have free : ∀ {b : Addr} {ob : Obj}, s1.heap.get? b = some ob → (∀ us m, ob.data ≠ .seq us m) → ob.data ≠ .fields #[] → T b = none := fun {b ob} e n1 n2 => by
      match q : T b with
      | none => rfl
      | some u =>
        rcases only_a b (by rw [q]; exact Option.some_ne_none _) with hb | hb
        · rw [hb, ha] at e
          cases e
          exact absurd rfl (n1 _ _)
        · rw [tabAt b hb] at e
          cases e
          exact absurd rfl n2
    have see : ∀ {b : Addr} {ob : Obj}, s1.heap.get? b = some ob → (∀ us m, ob.data ≠ .seq us m) → ob.data ≠ .fields #[] → (hidT s1.heap T).get? b = some ob := fun e n1 n2 => hidT_get e (free e n1 n2)
    have nsT : ∀ {b : Addr} {m : Str → Option Value}, s1.heap.Ns b m → (hidT s1.heap T).Ns b m := by
      rintro b m ⟨ob, es, ep, e, ed, r⟩
      exact ⟨ob, es, ep, see e (fun us m z => by rw [ed] at z; cases z) (fun z => by rw [ed] at z; cases z), ed, r⟩
    have inT : (K w.params).In (hidT s1.heap T) := by
      intro b ob e
      refine hidT_get (KX b ob e) ?_
      match q : T b with
      | none => rfl
      | some u =>
        rcases only_a b (by rw [q]; exact Option.some_ne_none _) with hb | hb
        · subst hb
          rw [notK (by rw [q]; exact Option.some_ne_none _)] at e
          cases e
        · obtain ⟨p, hp, rfl⟩ := List.mem_map.mp hb
          rw [tnot p hp] at e
          cases e
    have nolim : (hidT s1.heap T).NoLimit := by
      obtain ⟨mc, h1, h2⟩ := gr.T.nolimit
      exact ⟨mc, nsT h1, h2⟩
    have md : Mod (K w.params) mg (hidT s1.heap T) := ⟨inT, nsT gr.T.g, ⟨mb, nsT gr.T.b, gr.T.builtins⟩, nolim⟩
    have TB : ∀ p ∈ cs, LamX.TabB (hidT s1.heap T) mg p.1 p.2 := fun p hp => by
      refine ⟨?_, ?_, fun z => ?_⟩
      · obtain ⟨ob, us, file, tf, flags, tg, inF, text, tt, e, r1, r2, r3, rest⟩ := tcode p hp
        refine ⟨ob, us, file, tf, flags, tg, inF, text, tt, see e (fun vs m z => ?_) (fun z => ?_), r1, r2, r3, rest⟩
        · rw [r2] at z
          cases z
        · rw [r2] at z
          cases z
          simp at r3
      · obtain ⟨bm, ob, b1, b2, b3, b4, b5, b6⟩ := gr.T.bmain
        refine ⟨bm, ob, b1, b2, fun z => ?_, fun z => ?_, see b3 (fun vs m z => by rw [b6] at z; cases z) (fun z => by rw [b6] at z; cases z), b4, b5, b6⟩
        · obtain ⟨og, es, ep, e, ed, _⟩ := gr.T.g
          rw [z, e] at b3
          cases b3
          rw [ed] at b6
          cases b6
        · rw [z, tb p hp] at b3
          cases b3
          cases b6
      · obtain ⟨og, es, ep, e, ed, _⟩ := gr.T.g
        rw [z, tb p hp] at e
        cases e
        cases ed
    have e0 : Env0 l.prog w (K w.params) mg (hidT s1.heap T) callerA [] s1 T := by
      refine ⟨rfl, md, fun b ob e => of_hidT e, Nat.le_of_eq (hidT_size _ _), trivial, fun b hb => ?_, hok, .of_eq hgn⟩
      cases (show b ∈ ([] : List Addr) from hb)
    have run := (F _ inT (nsT gr.T.g) TB).go callerA [] s1 T ⟨[.ref a], []⟩ [.ref a] [.ref a] _ _ rfl hr e0 (hbind s1 (.ref a)) (.cons rfl .nil) (hsp T a ns hl tT hS)
    refine codeAny_mono run fun res t hq => ?_
    match res, hq with
    | .error e, hq => exact hq.elim
    | .ok .next, hq => exact hq.elim
    | .ok .brk, hq => exact hq.elim
    | .ok .cont, hq => exact hq.elim
    | .ok (.ret u), ⟨v, T', os, bare, un, hok', rr, qq⟩ =>
      obtain rfl : v = .bl true := qq
      obtain rfl : u = Value.bool true := rr
      have stay : ∀ b ob, b ∉ cs.map Prod.snd → s1.heap.get? b = some ob → t.heap.get? b = some ob := fun b ob nb e => by
        match q : T b with
        | none => exact un.keep b ob e q (fun z => nomatch (show b ∈ ([] : List Addr) from z)) (fun z => nomatch z)
        | some u =>
          rcases only b with z | z | ⟨fo, xs, z⟩
          · rw [q] at z
            cases z
          · exact absurd z nb
          · obtain ⟨e1, _⟩ := hok b _ z
            obtain ⟨e2, _⟩ := hok' b _ (un.frzs b fo _ z)
            rw [e] at e1
            cases e1
            exact e2
      have wax : ∀ p ∈ cs, ∃ more : Array Value, t.heap.get? p.2 = some { cls := .none, data := .fields more } := fun p hp => by
        obtain ⟨more, z⟩ := un.tbls p.2 #[] (tT p hp)
        exact ⟨_, hok' p.2 _ z⟩
      refine ⟨rfl, ⟨fun b ob e => ?_, fun b ob e => ?_⟩, os, bare⟩
      · by_cases hb : b ∈ cs.map Prod.snd
        · obtain ⟨p, hp, rfl⟩ := List.mem_map.mp hb
          obtain ⟨more, hm⟩ := wax p hp
          rw [tb p hp] at e
          cases e
          exact .inr (.inl ⟨((tcode p hp).tab (tb p hp)).isCodeTable, rfl, #[], more, rfl, by rw [Array.empty_append]; exact hm⟩)
        · exact .inl (stay b ob hb e)
      · by_cases hb : b ∈ cs.map Prod.snd
        · obtain ⟨p, hp, rfl⟩ := List.mem_map.mp hb
          obtain ⟨more, hm⟩ := wax p hp
          exact ⟨_, hm⟩
        · exact ⟨ob, stay b ob hb e⟩
  match hk : (K w.params).lookup a with
  | some ob =>
    have e := KX a ob hk
    rw [ha] at e
    cases e
    have atT : ∀ b, b ∈ cs.map Prod.snd → (if b ∈ cs.map Prod.snd then some (HO.tbl #[]) else none) = some (HO.tbl #[]) := fun b hb => if_pos hb
    have offT : ∀ b, b ∉ cs.map Prod.snd → (if b ∈ cs.map Prod.snd then some (HO.tbl #[]) else none) = none := fun b hb => if_neg hb
    refine main (fun b => if b ∈ cs.map Prod.snd then some (.tbl #[]) else none) (fun p hp => atT _ (inTab p hp)) (fun b => ?_) (.inr ⟨_, vs.toArray, _, hk, rfl, rfl, rfl, ?_, ?_⟩) (fun b u z => ?_) (fun b z => ?_) (fun z => absurd (offT a notA) z)
    · by_cases hb : b ∈ cs.map Prod.snd
      · exact .inr (.inl hb)
      · exact .inl (offT b hb)
    · rw [List.size_toArray, lenV]
      exact nsz
    · simpa using rv
    · by_cases hb : b ∈ cs.map Prod.snd
      · have z2 := (atT b hb).symm.trans z
        cases z2
        exact tabAt b hb
      · have z2 := (offT b hb).symm.trans z
        cases z2
    · by_cases hb : b ∈ cs.map Prod.snd
      · exact .inr hb
      · exact absurd (offT b hb) z
  | none =>
    let T : Hp := fun b => if b = a then some (.frz { cls := .type "list", data := .seq vs.toArray } (.lst (ns.map V.int))) else if b ∈ cs.map Prod.snd then some (.tbl #[]) else none
    have atA : T a = some (.frz { cls := .type "list", data := .seq vs.toArray } (.lst (ns.map V.int))) := if_pos rfl
    have atT : ∀ b, b ∈ cs.map Prod.snd → T b = some (.tbl #[]) := fun b hb => (if_neg (fun z : b = a => notA (z ▸ hb))).trans (if_pos hb)
    have offT : ∀ b, b ≠ a → b ∉ cs.map Prod.snd → T b = none := fun b h1 h2 => (if_neg h1).trans (if_neg h2)
    refine main T (fun p hp => atT _ (inTab p hp)) (fun b => ?_) (.inl (.inr ⟨{ cls := .type "list", data := .seq vs.toArray }, atA⟩)) (fun b u z => ?_) (fun b z => ?_) fun _ => hk
    · by_cases hb : b = a
      · exact .inr (.inr ⟨_, _, by rw [hb]; exact atA⟩)
      · by_cases h2 : b ∈ cs.map Prod.snd
        · exact .inr (.inl h2)
        · exact .inl (offT b hb h2)
    · by_cases hb : b = a
      · subst hb
        rw [atA] at z
        cases z
        exact ⟨ha, by rw [List.length_map]; exact nsz, vs, _, rv, ha⟩
      · by_cases h2 : b ∈ cs.map Prod.snd
        · rw [atT b h2] at z
          cases z
          exact tabAt b h2
        · rw [offT b hb h2] at z
          cases z
    · by_cases hb : b = a
      · exact .inl hb
      · by_cases h2 : b ∈ cs.map Prod.snd
        · exact .inr h2
        · exact absurd (offT b hb h2) z
theorem packT {P : Program} {w : World} {K : PySem.W.Frag} {mg : Str → Option Value} {k n : Nat} {fa : Addr} {x : Str} {cs : List (Addr × Addr)} {sp : Sp} {h : Heap}
    (tb : ∀ p ∈ cs, h.get? p.2 = some { cls := .none, data := .fields #[] }) (tn : ∀ p ∈ cs, K.lookup p.2 = none) (tc : ∀ p ∈ cs, PySem.W.CodeHd h p.1 p.2)
    (hsp : ∀ (H : Hp) (a : Addr) (ns : List Int), ns.length ≤ n → (∀ p ∈ cs, H p.2 = some (.tbl #[])) → SqL K H a (ns.map V.int) → sp [.ref a] H (fun v _ => v = .bl true) fun _ _ _ => False)
    (z : ∃ fd : FuncData, (∀ (s : Shared) (u : Value), BindsTo s fd ⟨[u], []⟩ [(x, u)]) ∧ ∀ base : Heap, K.In base → base.Ns mainGlobals mg → (∀ p ∈ cs, LamX.TabB base mg p.1 p.2) → FnG P w K mg base CX0 k fa fd [x] sp) :
    ∃ (fd : FuncData) (cs : List (Addr × Addr)) (sp : Sp), (∀ p ∈ cs, h.get? p.2 = some { cls := .none, data := .fields #[] }) ∧ (∀ p ∈ cs, K.lookup p.2 = none) ∧ (∀ p ∈ cs, PySem.W.CodeHd h p.1 p.2) ∧
        (∀ (s : Shared) (u : Value), BindsTo s fd ⟨[u], []⟩ [(x, u)]) ∧
        (∀ (H : Hp) (a : Addr) (ns : List Int), ns.length ≤ n → (∀ p ∈ cs, H p.2 = some (.tbl #[])) → SqL K H a (ns.map V.int) → sp [.ref a] H (fun v _ => v = .bl true) fun _ _ _ => False) ∧
        ∀ base : Heap, K.In base → base.Ns mainGlobals mg → (∀ p ∈ cs, LamX.TabB base mg p.1 p.2) → FnG P w K mg base CX0 k fa fd [x] sp :=
  let ⟨fd, hb, hF⟩ := z
  ⟨fd, cs, sp, tb, tn, tc, hb, hsp, hF⟩
end G

set_option Elab.async false
set_option linter.all false
set_option maxRecDepth 100000
set_option maxHeartbeats 2000000
/-! the texts of whole numbers, there and back -/
namespace G
open PySem PySem.Spec PyProof.Rows L2 TL
def digB (c : Nat) : Bool := decide (48 ≤ c) && decide (c ≤ 57)
def figOk (f : List Nat) : Bool := !f.isEmpty && (f.all digB && decide (f.length ≤ 60))
def negB (l : List Nat) : Bool := decide (l.head? = some 45)
def figs (l : List Nat) : List Nat := if negB l = true then l.tail else l
/-- the signs are the text of a whole number of at most sixty figures -/
def numOkL (l : List Nat) : Bool := figOk (figs l) && (decide ((figs l).head? ≠ some 48) || (decide ((figs l).length = 1) && !negB l))
def wholeZ (z : Str) : Option Int := if numOkL (tl z) = true then intText? z else none
abbrev textZ (n : Int) : Str := Str.ofString (toString n)
theorem digs_of {l : List Nat} (h : l.all digB = true) : NumText.AllDigits l := fun c hc => by
  have q : digB c = true := List.all_eq_true.mp h c hc
  unfold digB at q
  rw [Bool.and_eq_true, decide_eq_true_eq, decide_eq_true_eq] at q
  exact q
theorem all_of {l : List Nat} (h : NumText.AllDigits l) : l.all digB = true := List.all_eq_true.mpr fun c hc => by
  have q := h c hc
  unfold digB
  rw [decide_eq_true q.1, decide_eq_true q.2] <;> rfl
theorem numL_head {n : Nat} (h : 0 < n) : (numL n).head? ≠ some 48 := by
  induction n using Nat.strongRecOn with
  | _ n ih =>
    by_cases q : n < 10
    · rw [numL_lt q]
      intro e
      have : 48 + n = 48 := by simpa using e
      omega
    · rw [numL_step (by omega)]
      have i := ih (n / 10) (by omega) (by omega)
      have ne := numL_ne (n / 10)
      cases e : numL (n / 10) with
      | nil => exact absurd e ne
      | cons c r =>
        rw [e] at i
        simpa using i
theorem val_snoc (m : List Nat) (c : Nat) : NumText.digitsVal (m ++ [c]) = NumText.digitsVal m * 10 + (c - 48) := by
  unfold NumText.digitsVal
  rw [List.foldl_append] <;> rfl
/-- figures without a leading zero are those of their worth -/
theorem numL_back : ∀ (k : Nat) (l : List Nat), l.length = k → NumText.AllDigits l → l ≠ [] → (l.head? ≠ some 48 ∨ l.length = 1) → numL (NumText.digitsVal l) = l := by
  intro k
  induction k with
  | zero => intro l e _ n _; exact absurd (List.length_eq_zero_iff.mp e) n
  | succ k ih =>
    intro l e h n q
    obtain ⟨m, c, rfl⟩ : ∃ m c, l = m ++ [c] := ⟨l.dropLast, l.getLast n, (List.dropLast_concat_getLast n).symm⟩
    have hc := h c (List.mem_append_right _ List.mem_cons_self)
    rw [val_snoc]
    cases m with
    | nil =>
      show numL (0 * 10 + (c - 48)) = [c]
      rw [numL_lt (by omega)]
      congr 1
      omega
    | cons a m =>
      have lm : (a :: m).length = k := by
        rw [List.length_append] at e
        simpa using e
      have ha : a ≠ 48 := by
        rcases q with q | q
        · simpa using q
        · rw [List.length_append] at q
          simp at q
      have hm : NumText.AllDigits (a :: m) := fun x hx => h x (List.mem_append_left _ hx)
      have i := ih (a :: m) lm hm (by simp) (.inl (by simpa using ha))
      have pos : 0 < NumText.digitsVal (a :: m) := by
        rcases Nat.eq_zero_or_pos (NumText.digitsVal (a :: m)) with z | z
        · rw [z, numL_lt (by decide)] at i
          injection i with i1 i2
          exact absurd i1.symm ha
        · exact z
      rw [numL_step (by omega)]
      have e1 : (NumText.digitsVal (a :: m) * 10 + (c - 48)) / 10 = NumText.digitsVal (a :: m) := by omega
      have e2 : (NumText.digitsVal (a :: m) * 10 + (c - 48)) % 10 = c - 48 := by omega
      rw [e1, e2, i]
      congr 2
      omega
theorem val_lt {l : List Nat} (h : NumText.AllDigits l) (n : l ≠ []) (q : l.head? ≠ some 48 ∨ l.length = 1) (hl : l.length ≤ 60) : NumText.digitsVal l < 10 ^ 60 := by
  rcases Nat.lt_or_ge (NumText.digitsVal l) (10 ^ 60) with z | z
  · exact z
  · have g := digits10_ge (k := 60) (n := NumText.digitsVal l) z
    have e := congrArg List.length (numL_back _ l rfl h n q)
    unfold numL at e
    rw [List.length_map] at e
    omega
theorem tl_text (n : Int) : tl (textZ n) = (if n < 0 then [45] else []) ++ numL n.natAbs := by
  by_cases h : n < 0
  · rw [if_pos h]
    have e : (0 : Int) - n = ((n.natAbs : Nat) : Int) := by omega
    show tl (Str.ofString (toString n)) = _
    rw [toString_neg h, e]
    have e2 : Str.ofString ("-" ++ toString ((n.natAbs : Nat) : Int)) = Str.ofString "-" ++ Str.ofString (toString ((n.natAbs : Nat) : Int)) := by
      first
        | exact Str.ofString_append _ _
        | (refine ext_tl ?_; rw [tl_append]; simp [tl, Str.ofString_eq_toList])
    rw [e2, tl_append, tl_num]
    rfl
  · rw [if_neg h]
    have e : n = ((n.natAbs : Nat) : Int) := by omega
    show tl (Str.ofString (toString n)) = _
    rw [e, tl_num]
    rfl
/-- what such a text reads as, and that it is the text of this -/
theorem num_in {z : Str} (h : numOkL (tl z) = true) : ∃ n : Int, intText? z = some n ∧ textZ n = z ∧ -BIG < n ∧ n < BIG := by
  have e60 : (10 : Nat) ^ 60 = 1000000000000000000000000000000000000000000000000000000000000 := by decide
  unfold numOkL figOk at h
  rw [Bool.and_eq_true, Bool.and_eq_true, Bool.and_eq_true] at h
  obtain ⟨⟨h1, h2, h3⟩, h4⟩ := h
  have hl := of_decide_eq_true h3
  have ne : figs (tl z) ≠ [] := by
    intro e
    rw [e] at h1
    exact absurd h1 (by decide)
  have ad := digs_of h2
  have q : (figs (tl z)).head? ≠ some 48 ∨ (figs (tl z)).length = 1 := by
    rcases Bool.or_eq_true_iff.mp h4 with a | a
    · exact .inl (of_decide_eq_true a)
    · exact .inr (of_decide_eq_true (Bool.and_eq_true_iff.mp a).1)
  have back := numL_back _ _ rfl ad ne q
  have lt := val_lt ad ne q hl
  by_cases hn : negB (tl z) = true
  · have ez : figs (tl z) = (tl z).tail := if_pos hn
    obtain ⟨r, hr⟩ : ∃ r, tl z = 45 :: r := by
      unfold negB at hn
      have := of_decide_eq_true hn
      cases e : tl z with
      | nil => rw [e] at this; cases this
      | cons c r =>
        rw [e] at this
        injection this with t
        exact ⟨r, by rw [t]⟩
    rw [ez, hr] at ad ne q back lt hl h4
    have n48 : (r : List Nat).head? ≠ some 48 := by
      rcases Bool.or_eq_true_iff.mp h4 with a | a
      · exact of_decide_eq_true a
      · rw [← hr, hn] at a
        simp at a
    have hz : z.length ≤ 4300 := by
      rw [len_tl, hr, List.length_cons]
      have : (List.tail (45 :: r)).length ≤ 60 := hl
      simp at this
      omega
    refine ⟨-((NumText.digitsVal r : Nat) : Int), intText_neg hr ad ne hz, ?_, ?_, ?_⟩
    · refine ext_tl ?_
      have pos : 0 < NumText.digitsVal r := by
        rcases Nat.eq_zero_or_pos (NumText.digitsVal r) with y | y
        · have b : numL (NumText.digitsVal r) = r := back
          rw [y, numL_lt (by decide)] at b
          rw [← b] at n48
          exact absurd rfl n48
        · exact y
      rw [tl_text, if_pos (by omega), hr]
      have e : (-((NumText.digitsVal r : Nat) : Int)).natAbs = NumText.digitsVal r := by omega
      have b : numL (NumText.digitsVal r) = r := back
      rw [e, b]
      rfl
    · have : NumText.digitsVal r < 10 ^ 60 := lt
      unfold BIG
      omega
    · have : NumText.digitsVal r < 10 ^ 60 := lt
      unfold BIG
      omega
  · have ez : figs (tl z) = tl z := if_neg hn
    rw [ez] at ad ne q back lt hl
    refine ⟨((NumText.digitsVal (tl z) : Nat) : Int), intText_digits ad ne (by rw [len_tl]; omega), ?_, ?_, ?_⟩
    · refine ext_tl ?_
      rw [tl_text, if_neg (by omega)]
      exact back
    · unfold BIG
      omega
    · unfold BIG
      omega
theorem num_out {n : Int} (h1 : -BIG < n) (h2 : n < BIG) : numOkL (tl (textZ n)) = true ∧ intText? (textZ n) = some n := by
  have lt : n.natAbs < 10 ^ 60 := by
    have e60 : (10 : Nat) ^ 60 = 1000000000000000000000000000000000000000000000000000000000000 := by decide
    unfold BIG at h1 h2
    omega
  have hl : (numL n.natAbs).length ≤ 60 := numL_len (by decide) lt
  have ne := numL_ne n.natAbs
  have ad := numL_digits n.natAbs
  have hf : figOk (numL n.natAbs) = true := by
    unfold figOk
    rw [all_of ad, decide_eq_true hl]
    cases e : numL n.natAbs with
    | nil => exact absurd e ne
    | cons c r => rfl
  have et := tl_text n
  by_cases hn : n < 0
  · rw [if_pos hn] at et
    have et' : tl (textZ n) = 45 :: numL n.natAbs := et
    constructor
    · rw [et']
      have ef : figs (45 :: numL n.natAbs) = numL n.natAbs := if_pos (decide_eq_true rfl)
      unfold numOkL
      rw [ef, hf, decide_eq_true (numL_head (by omega))] <;> rfl
    · have := intText_neg et' ad ne (by rw [len_tl, et', List.length_cons]; omega)
      rw [numL_val] at this
      rw [this]
      congr 1
      omega
  · rw [if_neg hn] at et
    have et' : tl (textZ n) = numL n.natAbs := et
    have hd : negB (numL n.natAbs) = false := by
      unfold negB
      refine decide_eq_false fun e => ?_
      have : 45 ∈ numL n.natAbs := List.mem_of_mem_head? e
      exact numL_free (.inl (by decide)) this
    constructor
    · rw [et']
      have ef : figs (numL n.natAbs) = numL n.natAbs := if_neg (by rw [hd]; exact Bool.false_ne_true)
      unfold numOkL
      rw [ef, hf, hd]
      by_cases p : 0 < n.natAbs
      · rw [decide_eq_true (numL_head p)] <;> rfl
      · have : n.natAbs = 0 := by omega
        rw [this, numL_lt (by decide)] <;> rfl
    · have := intText_digits (x := textZ n) (by rw [show (textZ n).cps.toList = numL n.natAbs from et']; exact ad) (by rw [show (textZ n).cps.toList = numL n.natAbs from et']; exact ne) (by rw [len_tl, et']; omega)
      rw [show (textZ n).cps.toList = numL n.natAbs from et', numL_val] at this
      rw [this]
      congr 1
      omega
theorem whole_text {n : Int} (h1 : -BIG < n) (h2 : n < BIG) : wholeZ (textZ n) = some n := by
  obtain ⟨a, b⟩ := num_out h1 h2
  unfold wholeZ
  rw [if_pos a, b]
theorem whole_in {z : Str} {n : Int} (h : wholeZ z = some n) : textZ n = z ∧ -BIG < n ∧ n < BIG := by
  unfold wholeZ at h
  by_cases q : numOkL (tl z) = true
  · rw [if_pos q] at h
    obtain ⟨m, e, t, a, b⟩ := num_in q
    rw [e] at h
    injection h with h
    subst h
    exact ⟨t, a, b⟩
  · rw [if_neg q] at h
    cases h
end G

set_option Elab.async false
set_option linter.all false
set_option maxRecDepth 100000
set_option maxHeartbeats 2000000
/-! an error that leaves a comprehension (begun): it is noted in the def's frame, the block is let go, the error goes on -/
namespace G
open PySem PySem.Spec PyProof.Rows L2
section
variable {M : Model} {A : Around} {E : Value → Shared → Prop} {s1 : Shared} {B : Heap} {env ce : Env} {outer : List Env} {a L : Addr} {Z : Obj → Prop} {m : Str → Option Value}
theorem traced_same {h h2 : Heap} {fl : Value} (hn : h.Ns ce.locals m) (hs : Heap.SameBut ce.locals h h2) (t : HandSPX.TracedZ h B a Z fl) : HandSPX.TracedZ h2 B a Z fl := by
  obtain ⟨oe, vs, T, oT, ts, g1, g2, g3, g4, g5, g6, g7, g8, g9⟩ := t
  obtain ⟨od, es, ep, q1, q2, _⟩ := hn
  have n1 : a ≠ ce.locals := fun e => by
    rw [e, q1] at g1
    injection g1 with g1
    rw [g1] at q2
    rw [q2] at g3
    cases g3
  have n2 : T ≠ ce.locals := fun e => by
    rw [e, q1] at g7
    injection g7 with g7
    rw [g7] at q2
    rw [q2] at g8
    cases g8
  exact ⟨oe, vs, T, oT, ts, (hs.2 a n1).trans g1, g2, g3, g4, g5, g6, (hs.2 T n2).trans g7, g8, g9⟩
theorem fails_held (hf : ce.frame = some L) (hC : B.get? ce.locals = none) (hn : s1.heap.Ns ce.locals m) (hh : HandSPX.HeldZ B (env :: outer) a Z L s1.heap)
    (hQ : ∀ h2, HandSPX.HeldZ B (env :: outer) a Z L h2 → (∀ b o, s1.heap.get? b = some o → b ≠ ce.locals → (∀ vs, o.data ≠ .fields vs) → ∃ sl, h2.get? b = some { o with slots := sl }) → E (.ref a) { s1 with heap := h2 }) :
    CompFails M A E ce (.ref a) s1 := by
  obtain ⟨k1, k2, k3, k4⟩ := hh
  refine ⟨m, hn, fun h2 m2 hn2 hs => ?_⟩
  have t2 := traced_same hn hs k4
  have held : HandSPX.HeldZ B (env :: outer) a Z L h2 := ⟨fun b o q => (hs.2 b fun e => by rw [e, hC] at q; cases q).trans (k1 b o q), k2, Heap.FunFrames.sameBut hs hn2 k3, t2⟩
  obtain ⟨oe, vs, T, _, _, g1, _, g3, g4, _⟩ := t2
  unfold PySem.passOn
  refine wpAny_bind (wpAny_field g1 g3 g4 ?_)
  rw [if_neg (show ¬ ((Value.ref T == Value.none) = true) from by simp), hf]
  refine wpAny_bind (HandSPX.setFlight_onZ held fun h3 hd up => wpAny_throw (hQ h3 hd fun b o q nb nf => ?_))
  exact up b o ((hs.2 b nb).trans q) nf
theorem noted_goes (hZ : HandSPX.Steady Z) (hfr : A.frames = some (env :: outer)) (hcf : ce.frame = env.frame) (hf : env.frame = some L) (hC : B.get? ce.locals = none) (hn : s1.heap.Ns ce.locals m) (fl : HandSPX.FlyingZ B (env :: outer) a Z s1.heap)
    (hQ : ∀ h2, HandSPX.HeldZ B (env :: outer) a Z L h2 → (∀ b o, s1.heap.get? b = some o → b ≠ ce.locals → (∀ vs, o.data ≠ .fields vs) → ∃ sl, h2.get? b = some { o with slots := sl }) → E (.ref a) { s1 with heap := h2 }) :
    notedBy M A ce (CompFails M A E ce) (.ref a) s1 := by
  show wpAny M A (noteFrame (.ref a) ce) _ _ s1
  rw [noteFrame_env _ hcf]
  refine HandSPX.looks_onZ hZ hfr hf fl fun h2 hd up => fails_held (hcf.trans hf) hC (hn.upToSlots up) hd fun h3 hd3 k => hQ h3 hd3 fun b o q nb nf => ?_
  obtain ⟨sl, q2⟩ := up b o q nf
  obtain ⟨sl2, q3⟩ := k b _ q2 nb nf
  exact ⟨sl2, q3⟩
end
end G
namespace G
open PySem PySem.Spec PyProof.Rows L2
section
variable {X : Cx} {pins : List (Addr × Obj)} {σ : L2.St} {H3 H' : Hp} {s3 s s' : Shared} {W : WX} {E : XK} {ce : Env} {fp : List Addr} {m : Str → Option Value} {e : Value}
/-- what a call in a comprehension's element lets out, as the def's own context takes it -/
theorem block_out (I3 : L2.Inv X pins σ H3 s3) (hs : X.stack = X.env :: X.outer) (hf : X.env.frame = some X.env.locals) (tk : Takes X W)
    (hfp : ∀ b ∈ fp, (b ∈ X.ex ∨ X.s_0.heap.objs.size ≤ b) ∧ b ≠ X.env.locals ∧ (∀ x c, X.env.cells.lookup x = some c → c ≠ b) ∧ ∀ p ∈ X.pn ++ pins, p.1 ≠ b)
    (hcf : ce.frame = X.env.frame) (hcl : ce.locals = s3.heap.objs.size) (un : Un (frs X.stack) fp H3 H' s3.heap s.heap) (os : s.os = s3.os) (nC : H' ce.locals = none) (hn : s.heap.Ns ce.locals m)
    (c : L2.CX X.prog X.w X.stack H' s E e s') (hW : ∀ cls d H2, E cls d H2 → W cls d σ H2) :
    notedBy (model X.prog X.w) X.A ce (CompFails (model X.prog X.w) X.A X.xe ce) e s' := by
  obtain ⟨a, B, H2, cls, d, rfl, fl, hok, ub, na, os', ag, hE⟩ := c
  have old : ∀ b o, s3.heap.get? b = some o → b ≠ ce.locals := fun b o q z => by
    have := Heap.lt_size q
    rw [z, hcl] at this
    exact absurd this (Nat.lt_irrefl _)
  have notF : ce.locals ∉ frs X.stack := fun hm => by
    obtain ⟨_, o, q, _⟩ := I3.stack.mem hm
    exact old _ _ q rfl
  obtain ⟨oC, es, ep, hoC, hdC, rC⟩ := hn
  have BC : B.get? ce.locals = some oC := ub.keep _ _ hoC nC notF
  have H2C : H2 ce.locals = none := ub.free _ _ hoC nC
  have hn' : s'.heap.Ns ce.locals m := ⟨oC, es, ep, fl.1 _ _ BC, hdC, rC⟩
  obtain ⟨B', hB'⟩ : ∃ B', B' = PySem.W.hideAll B [ce.locals] := ⟨_, rfl⟩
  have gB : ∀ b o, B'.get? b = some o → B.get? b = some o := fun b o q => by rw [hB'] at q; exact PySem.W.of_hideAll _ q
  have gB2 : ∀ b o, B.get? b = some o → b ≠ ce.locals → B'.get? b = some o := fun b o q n => by rw [hB']; exact PySem.W.hideAll_get _ q (by simpa using n)
  have CB' : B'.get? ce.locals = none := by rw [hB']; exact PySem.W.hideAll_none _ List.mem_cons_self
  have nB : ∀ b, B.get? b = none → B'.get? b = none := fun b q => by
    cases z : B'.get? b with
    | none => rfl
    | some o =>
      rw [gB _ _ z] at q
      cases q
  obtain ⟨st, an, ff, oe, vs, T, oT, ts, t1, t2, t3, t4, t5, t6⟩ := fl
  have fl' : HandSPX.FlyingZ B' X.stack a (Zc cls d) s'.heap := ⟨fun b o q => st b o (gB b o q), nB _ an, funFrames_none ff fun L hL => nB _ (ff.mem hL).1, oe, vs, T, oT, ts, t1, t2, t3, t4, nB _ t5, t6⟩
  rw [hs] at fl'
  refine noted_goes Zc.steady (I3.ok.frames.trans (congrArg some hs)) hcf hf CB' hn' fl' fun h2 hd k => tk _ _ ?_
  obtain ⟨G, g1, g2⟩ := restrict h2 fun b => (B'.get? b).isSome || decide (b ∈ frs X.stack)
  have st2 : B'.StaysIn h2 := hd.1
  have gB3 : ∀ b o, B'.get? b = some o → G.get? b = some o := fun b o q => by
    rw [g1 b (by simp [q])]
    exact st2 b o q
  have gF : ∀ b, b ∈ frs X.stack → G.get? b = h2.get? b := fun b hb => g1 b (by simp [hb])
  have og : ∀ b o, G.get? b = some o → h2.get? b = some o ∧ ((B'.get? b).isSome = true ∨ b ∈ frs X.stack) := fun b o q => by
    cases z : ((B'.get? b).isSome || decide (b ∈ frs X.stack)) with
    | false => rw [g2 b z] at q; cases q
    | true =>
      rw [g1 b z] at q
      exact ⟨q, by simpa [Bool.or_eq_true] using z⟩
  have slots : ∀ b o, s3.heap.get? b = some o → H3 b = none → b ∈ frs X.stack → b ∉ fp → ∃ sl, G.get? b = some { o with slots := sl } := fun b o q n hb hc => by
    obtain ⟨sl1, q1⟩ := un.slot b o q n hb hc
    obtain ⟨sl2, q2⟩ := ub.slot b _ q1 hb
    obtain ⟨_, o0, q0, nf⟩ := I3.stack.mem hb
    rw [q] at q0
    injection q0 with q0
    subst q0
    obtain ⟨sl3, q3⟩ := k b _ q2 (old b o q) nf
    exact ⟨sl3, by rw [gF b hb]; exact q3⟩
  have hokG : HOk X.prog X.w H2 G := fun b o q => (hok b o q).stay (fun c u hc r => gB3 c u (gB2 c u r fun z => by
    rcases hc with hc | hc
    · rw [← hc, z, H2C] at q
      cases q
    · rw [z, H2C] at hc
      cases hc)) (fun _ r => r) fun _ _ r => r
  have J : L2.Inv X pins σ H2 { s3 with heap := G, gens := s'.gens, drawn := s'.drawn, toks := s'.toks } := I3.call (ch := fp)
    ⟨fun b o q n hb hc => gB3 b o (gB2 b o (ub.keep b o (un.keep b o q n hb hc) (un.free b o q n hc) hb) (old b o q)), slots,
      fun b o q n hc => by
        obtain ⟨o1, q1⟩ := un.there b o q hc
        exact ub.free b o1 q1 (un.free b o q n hc),
      fun b o q hc => by
        by_cases hb : b ∈ frs X.stack
        · obtain ⟨sl, z⟩ := slots b o q (I3.stkFree b hb) hb hc
          exact ⟨_, z⟩
        · obtain ⟨o1, q1⟩ := un.there b o q hc
          obtain ⟨o2, q2⟩ := ub.there b o1 q1 hb
          exact ⟨o2, gB3 b o2 (gB2 b o2 q2 (old b o q))⟩,
      fun b xs q => ub.tups b xs (un.tups b xs q), fun b o xs q => ub.frzs b o xs (un.frzs b o xs q),
      fun b ps q => by
        obtain ⟨m1, q1⟩ := un.tbls b ps q
        obtain ⟨m2, q2⟩ := ub.tbls b _ q1
        exact ⟨m1 ++ m2, by rw [q2, Array.append_assoc]⟩⟩ hokG ag hfp
  refine ⟨a, B', _, pins, σ, H2, cls, d, rfl, J, fun b o q hb => ?_, Heap.UpToSlots.of_keeps fun b o q => (og b o q).1, .inr (.inr (by rw [hs]; exact hd)), na, os'.trans os, ag, hW _ _ _ hE⟩
  obtain ⟨q1, h⟩ := og b o q
  rcases h with h | h
  · obtain ⟨o2, q2⟩ := Option.isSome_iff_exists.mp h
    have z := st2 b o2 q2
    rw [q1] at z
    cases z
    exact q2
  · exact absurd h hb
end
end G

set_option Elab.async false
set_option linter.all false
set_option maxRecDepth 100000
set_option maxHeartbeats 4000000
/-! a list comprehension whose element's call may raise: the error leaves the def -/
namespace G
open PySem PySem.Spec PyProof.Rows L2
section
variable {X : Cx}
/-- the errors of calls in a block's element, as the block hands them on -/
def Hands (Y : Cx) (E0 : XK) (xe : Value → Shared → Prop) : Prop :=
  ∀ (pz : List (Addr × Obj)) (τ : L2.St) (K1 : Hp) (u : Shared) (e : Value) (u' : Shared), L2.Inv (Y.wish xe) pz τ K1 u → L2.CX Y.prog Y.w Y.stack K1 u E0 e u' → xe e u'
theorem pe_lcX {elt tg iter : Expr} {ifs : List Expr} {scope : Scope} {own : List (Str × Nat)} {pos : Pos} {wi : TI} {g : TG} {tt : TT} {te : TE} {E0 : XK} (calm : X.calm = true) (hN : X.N.Nodup) (hS : X.stack = X.env :: X.outer) (hF : X.env.frame = some X.env.locals) (tk : Takes X fun cls d _ H => E0 cls d H)
    (hi : PI X tg iter wi) (ok : BlkOk X.N X.env.scope scope own)
    (hg : ∀ (u : Shared) (K1 : Hp) (C : Addr) (cl : List (Str × Addr)) (fp : List Addr), PG (X.blk u K1 scope (compEnvC scope cl C X.env) fp) tg g)
    (ht : ∀ (u : Shared) (K1 : Hp) (C : Addr) (cl : List (Str × Addr)) (fp : List Addr), PTs (X.blk u K1 scope (compEnvC scope cl C X.env) fp) ifs tt)
    (he : ∀ (u : Shared) (K1 : Hp) (C : Addr) (cl : List (Str × Addr)) (fp : List Addr) (xe : Value → Shared → Prop), Hands (X.blk u K1 scope (compEnvC scope cl C X.env) fp) E0 xe → PE ((X.blk u K1 scope (compEnvC scope cl C X.env) fp).wish xe) elt te)
    (fold : ∀ x, foldedSetIterable iter X.env x = pure x := by intro _; rfl) :
    PE X (.ListComp elt [⟨tg, iter, ifs, 0⟩] scope pos) (tLc wi g tt te (own.map (·.2))) := by
  refine ⟨fun pins s σ H Q I h => ?_⟩
  rw [eval_ListComp]
  have closed : ∀ y ∈ scope.names, y.2 = .free → ∃ c, X.env.cells.lookup y.1 = some c := fun y hy q => (ok.free y hy q).elim (fun k => I.ok.has _ (.inl k)) fun k => I.ok.has _ (.inr k)
  refine comprehension_at (use := none) rfl fold (closure_ok closed) ok.kind (fun y hy q => by rw [ok.uniq y hy, q]) (thn (hi.run pins s σ H _ I h) fun _ _ hx => thn hx fun _ sa hb => ?_)
  obtain ⟨it, fp, tn, J, Ha, eq, Ia, T, sta, fa, walk⟩ := hb
  subst eq
  refine wpAny_newObj_type (newEnv_comp ?_) (by show 0 ≤ sizeLine; decide)
  obtain ⟨D, hD⟩ : ∃ D, sa.heap.objs.size = D := ⟨_, rfl⟩
  rw [hD]
  obtain ⟨W, ⟨m0, w0⟩, turn⟩ := walk D (Ia.hok.fresh (Nat.le_of_eq hD))
  obtain ⟨sb, hsb⟩ : ∃ sb : Shared, ({ sa with heap := sa.heap.push { cls := .type "list", data := .seq ([] : List Value).toArray } } : Shared) = sb := ⟨_, rfl⟩
  rw [hsb]
  obtain ⟨Hb, hHb⟩ : ∃ Hb, upd Ha D (.lst []) = Hb := ⟨_, rfl⟩
  rw [hHb] at w0
  have Ib : L2.Inv X pins σ Hb sb := by
    rw [← hsb, ← hHb]
    refine Ia.laid (t' := sa.toks) (fun _ _ z => Heap.get?_push_of_some _ z) (Nat.le_of_eq hD) ⟨Nat.zero_le _, [], 0, .nil, ?_⟩
    rw [← hD]
    exact Heap.get?_push_size _ rfl
  have heapb : sb.heap = sa.heap.push { cls := .type "list", data := .seq ([] : List Value).toArray } := by rw [← hsb]
  have fb : ∀ b ∈ fp, FpOk X pins Hb b ∧ b < sb.heap.objs.size := fun b hm => by
    obtain ⟨o, z, _⟩ := T.obj _ _ sta b hm
    have lt := Heap.lt_size z
    constructor
    · refine ⟨?_, (fa b hm).2⟩
      rw [← hHb, upd_ne (by rw [← hD]; exact Nat.ne_of_lt lt)]
      exact (fa b hm).1
    · rw [heapb, Heap.size_push]
      exact Nat.lt_succ_of_lt lt
  have stb : tn 0 sb.heap := T.keep _ _ _ sta fun b _ o z => by rw [heapb]; exact Heap.get?_push_of_some _ z
  have Ic := block_start Ib ok hN fb
  obtain ⟨ce, hce⟩ : ∃ ce, compEnvC scope (cellsFrom (sb.heap.objs.size + 1) scope.names (cloFrom X.env.cells scope.names [])) sb.heap.objs.size X.env = ce := ⟨_, rfl⟩
  have locC : ce.locals = sb.heap.objs.size := by
    subst hce
    rfl
  have frC : ce.frame = X.env.frame := by
    subst hce
    rfl
  obtain ⟨sc, hsc⟩ : ∃ sc : Shared, ({ sb with heap := pushCells (sb.heap.push { cls := .type "dict", data := .dict #[] }) scope.names } : Shared) = sc := ⟨_, rfl⟩
  have pg := hg sb Hb sb.heap.objs.size (cellsFrom (sb.heap.objs.size + 1) scope.names (cloFrom X.env.cells scope.names [])) fp
  have pt := ht sb Hb sb.heap.objs.size (cellsFrom (sb.heap.objs.size + 1) scope.names (cloFrom X.env.cells scope.names [])) fp
  have pe := fun xe => he sb Hb sb.heap.objs.size (cellsFrom (sb.heap.objs.size + 1) scope.names (cloFrom X.env.cells scope.names [])) fp xe
  rw [hce] at Ic pg pt pe
  rw [hsc] at Ic
  have chg : ∀ b ∈ fp, (b ∈ X.ex ∨ X.s_0.heap.objs.size ≤ b) ∧ b ≠ X.env.locals ∧ (∀ x c, X.env.cells.lookup x = some c → c ≠ b) ∧ ∀ p ∈ X.pn ++ pins, p.1 ≠ b := fun b hm =>
    let z := (fb b hm).1
    ⟨z.2.2.2.1, z.2.1, z.2.2.2.2.1, z.2.2.2.2.2⟩
  obtain ⟨xe, hxe⟩ : ∃ xe, notedBy (model X.prog X.w) X.A ce (CompFails (model X.prog X.w) X.A X.xe ce) = xe := ⟨_, rfl⟩
  have hands : Hands (X.blk sb Hb scope ce fp) E0 xe := fun pz τ K1 u e u' Iu c => by
    obtain ⟨m, hn, _⟩ := Iu.loc
    rw [← hxe]
    exact block_out Ib hS hF tk chg frC locC Iu.base Iu.os Iu.free hn c fun _ _ _ z => z
  have pe := pe xe hands
  show codeAny _ _ (.compStart (.ListComp elt [⟨tg, iter, ifs, 0⟩] scope pos) 0 (.ref it) (.ref D) (compEnvC scope (cellsFrom (sb.heap.objs.size + 1) scope.names (cloFrom X.env.cells scope.names [])) sb.heap.objs.size X.env)) (compEnds (model X.prog X.w) X.A X.xe none _ (.ref D) (compEnvC scope (cellsFrom (sb.heap.objs.size + 1) scope.names (cloFrom X.env.cells scope.names [])) sb.heap.objs.size X.env)) { sb with heap := pushCells (sb.heap.push { cls := .type "dict", data := .dict #[] }) scope.names }
  rw [hce, hsc]
  have stc : tn 0 sc.heap := T.keep _ _ _ stb fun b _ o z => by rw [← hsc]; exact pushCells_keeps _ _ _ _ (Heap.get?_push_of_some _ z)
  have stay : ∀ {τ : L2.St} {K1 : Hp} {u : Shared}, L2.Inv (X.blk sb Hb scope ce fp) [] τ K1 u → (∀ b ∈ fp, K1 b = none) → ∀ b ∈ fp, FpOk (X.blk sb Hb scope ce fp) [] K1 b := fun {τ K1 u} Iu hn b hm =>
    ⟨hn b hm, (Iu.ok.exf b hm).1, Iu.ok.exfs b hm, .inl hm, fun x c z => (Iu.ok.exf b hm).2 x c z, fun p hp => absurd (show p ∈ ([] : List (Addr × Obj)) ++ [] from hp) (by simp)⟩
  have loop : codeAny (model X.prog X.w) X.A (.compLoop (.ListComp elt [⟨tg, iter, ifs, 0⟩] scope pos) 0 (.ref it) (.ref D) ce) (compEnds (model X.prog X.w) X.A X.xe none (EP X pins σ Q) (.ref D) ce) sc := by
    refine compLoop_any (fun n u => ∃ i K1, L2.Inv (X.blk sb Hb scope ce fp) [] (wipe σ (own.map (·.2))) K1 u ∧ tn i u.heap ∧ (∀ b ∈ fp, K1 b = none) ∧ W i n K1) ?_ m0 ⟨0, Hb, Ic, stc, fun b hm => (fb b hm).1.1, w0⟩
    rintro n s5 ⟨i, H5, I5, st5, n5, w5⟩
    rcases turn i n H5 w5 with ⟨stop, last⟩ | ⟨go, Nx, less, step⟩
    · refine thnF (T.done (X.blk sb Hb scope ce fp) rfl rfl rfl calm i [] s5 _ H5 (fun _ _ => False) I5 (stay I5 n5) st5 stop) fun r s6 ⟨hr, I6⟩ => ?_
      subst hr
      have I7 : L2.Inv X pins σ H5 s6 := Ib.call' (ch := fp) I6.os I6.base I6.hok I6.bare chg
      have nC : H5 ce.locals = none := I6.free
      obtain ⟨m, hn, _⟩ := I6.loc
      have f := Ib.fpOk (H' := H5) (Nat.le_of_eq locC.symm) nC
      obtain ⟨f0, f1, f2, f3, f4, f5⟩ := f
      refine ⟨m, hn, fun h2 sb2 => ?_⟩
      exact ⟨.ref D, H5, I7.turned (t' := s6.toks) (fun b o hb z => (sb2.2 b hb).trans z) f0 f1 f3 f4 f5, rfl, last⟩
    · refine thnF (T.item (X.blk sb Hb scope ce fp) rfl rfl rfl calm i [] s5 _ H5 (fun _ _ => False) I5 (stay I5 n5) st5 go) fun r s6 ⟨y, hr, h6⟩ => ?_
      subst hr
      refine thnF h6 fun _ s7 ⟨x, H7, I7, r7, y7, st7, n7⟩ => ?_
      refine thnF (pg.run _ s7 _ H7 x y _ (I7.pinned (stay I7 n7) (T.obj _ _ st7)) r7 (step x H7 y7)) fun _ s8 ⟨σ8, H8, I8, same8, q8⟩ => ?_
      refine thnF (pt.run _ s8 σ8 H8 _ I8 q8) fun b s9 ⟨H9, I9, q9⟩ => ?_
      have fin : ∀ {u : Shared} {K1 : Hp}, L2.Inv (X.blk sb Hb scope ce fp) ([] ++ pinsAt fp s7.heap) σ8 K1 u → Nx K1 → ∃ k, k < n ∧ ∃ i K1, L2.Inv (X.blk sb Hb scope ce fp) [] (wipe σ (own.map (·.2))) K1 u ∧ tn i u.heap ∧ (∀ b ∈ fp, K1 b = none) ∧ W i k K1 := fun {u K1} Iu nx => by
        obtain ⟨k, lt, w'⟩ := less K1 nx
        have pinned : ∀ b ∈ fp, ∀ o, s7.heap.get? b = some o → u.heap.get? b = some o ∧ K1 b = none := fun b hm o z =>
          let q := Iu.pin (b, o) (List.mem_append_right _ (List.mem_append_right _ (mem_pinsAt hm z)))
          ⟨q.1, q.2.1⟩
        refine ⟨k, lt, i + 1, K1, (Iu.unpinned (pins := [])).weak (by rw [← same8, wipe_length]) (fun j v z => ?_), T.keep _ _ _ st7 fun b hm o z => (pinned b hm o z).1, fun b hm => ?_, w'⟩
        · rw [← same8] at z
          exact (wipe_some z).1
        · obtain ⟨o, z, _⟩ := T.obj _ _ st7 b hm
          exact (pinned b hm o z).2
      cases b with
      | false =>
        simp only [Bool.false_eq_true, if_false] at q9 ⊢
        exact fin I9 q9
      | true =>
        simp only [if_true] at q9 ⊢
        refine wpAny_mono (pe.run _ s9 σ8 H9 _ (I9.wish xe) q9) (fun z s10 ⟨yv, H10, I10, r10, acc, hD10, hz10, nx⟩ => ?_) fun e u z => ?_
        · exact app_ok (X := X.blk sb Hb scope ce fp) I10.unwish hD10 hz10 r10 fun s11 I11 => fin I11 nx
        · have z : xe e u := z
          rw [← hxe] at z
          exact z
  exact codeAny_compStart_list loop (T.self X.A 0 _ _ _ stc loop)
/-- a def that may raise, called in such an element -/
theorem pe_kxH {gq : Bool} {Y : Cx} {xe : Value → Shared → Prop} {E0 : XK} {k j : Nat} {x : Str} {ps : List Str} {sp : Sp} {e : Expr} {es : List Expr} {t : TA} {p pos : Pos} (c : CalXQ gq Y.prog Y.w Y.K Y.mg Y.base k x ps sp) (hx : Hands Y E0 xe) (hgd : gq = true → Y.A.guards = some []) (hr : Room j Y.A) (hk : k ≤ j) (hg : Gl (Y.wish xe) x) (ha : PA (Y.wish xe) (e :: es) t)
    (hdb : (x == ("__debug__" : Str)) = false := by decide) (he : starEach (e :: es) Y.env = (false, eval e Y.env) :: starEach es Y.env := by rfl) (hpl : (backTo pos (starEach es Y.env)).any (·.1) = false := by rfl) :
    PE (Y.wish xe) (.Call (.Name x p) (e :: es) [] pos) (tCallS sp (fun _ => E0) t) := by
  obtain ⟨f, fd, F, m, kp, b⟩ := c.ex
  exact pe_q (X := Y.wish xe) F hgd (hr.mono hk) hg m kp b (fun τ pz K1 u v u' I c => hx pz τ K1 u v u' I c) ha hdb he hpl
end
end G

set_option Elab.async false
set_option linter.all false
set_option maxRecDepth 100000
set_option maxHeartbeats 2000000
/-! ## the error ParseError of the text: over ValueError, its own __init__ keeps number (after the guide's skeleton 42, for any base) -/
namespace OwnParseError
open PySem PySem.W PySem.Calls PyProof.Rows PySem.HandSPX
def iA (p1 p2 : Pos) : Arguments := { posonlyargs := [], args := [{ arg := "self", annotation := none, pos := p1 }, { arg := "number", annotation := none, pos := p2 }], vararg := none, kwonlyargs := [], kw_defaults := [], kwarg := none, defaults := [] }
def iB (q1 q2 q3 q4 : Pos) : List Stmt := [.Assign [.Attribute (.Name "self" q1) "number" q2] (.Name "number" q3) q4]
def iS : Scope := { kind := .function, names := [(PySem.Str.ofString "self", .local), (PySem.Str.ofString "number", .local)], isGenerator := false, isCoroutine := false, more := [] }
abbrev bmB : List Value := [.type "ValueError", .type "Exception", .type "BaseException", .type "object"]
structure Txt (K : Frag) (mg : Str → Option Value) (C fI : Addr) : Prop where
  gC : mg "ParseError" = some (.ref C)
  cls : ∃ nm q N bs bm sn sub ab col dd k0 k1 k2 k3 k5, K.lookup C = some (excClassObj nm q C N bs bm true sn sub ab col dd k0 k1 k2 k3 k5 "ValueError.__new__") ∧ excTail bmB bm = true
  ov : excOver K C bmB = true
  sa : findIn K (.ref C) "__setattr__" = some (some (.builtin "object.__setattr__"))
  ga : findIn K (.ref C) "__getattribute__" = some (some (.builtin "BaseException.__getattribute__"))
  gg : findIn K (.ref C) "__getattr__" = some none
  noN : findIn K (.ref C) "number" = some none
  tkN : takerIn K C "number" = some none
  iC : findIn K (.ref C) "__init__" = some (some (.ref fI))
  tC : typeIn K (.ref fI) = some (.type "function")
  kC : keepIn K (.ref C) = true
  exC : subIn K (.ref C) (.type "BaseException") = some true
  tyC : typeIn K (.ref C) = some (.type "type")
  hdC : hasDictIn K C = true
  te : exmOne K (.ref C) (.ref C) = some true
  fn : ∃ (oc : Value) (od : Option Addr) (doc pm : Value) (an : Option Addr) (cdv ct : Value) (osl : Array (Option Value)) (p1 p2 q1 q2 q3 q4 : Pos),
    K.lookup fI = some ⟨oc, od, .func (fnOf "__init__" "ParseError.__init__" (iA p1 p2) (iB q1 q2 q3 q4) iS .none .none doc pm an cdv ct), osl⟩ ∧ codeIn K cdv "ParseError.__init__" = true
theorem mk_txt {K : Frag} {h : Heap} {mg : Str → Option Value} {C fI : Addr} {nm q : Str} {N : Addr} {bs bm : List Value} {sn : List Str} {sub : List Value} {ab : Bool} {col : Option Bool} {dd : Option Addr} {k0 k1 k2 k3 k5 : Option Value}
    {oc : Value} {od : Option Addr} {doc pm : Value} {an : Option Addr} {cdv ct : Value} {osl : Array (Option Value)} {p1 p2 q1 q2 q3 q4 : Pos} (X : K.In h) (G : h.Ns mainGlobals mg)
    (gC : nsIn K mainGlobals "ParseError" = some (some (.ref C))) (cls : K.lookup C = some (excClassObj nm q C N bs bm true sn sub ab col dd k0 k1 k2 k3 k5 "ValueError.__new__")) (tl : excTail bmB bm = true)
    (ov : excOver K C bmB = true) (sa : findIn K (.ref C) "__setattr__" = some (some (.builtin "object.__setattr__"))) (ga : findIn K (.ref C) "__getattribute__" = some (some (.builtin "BaseException.__getattribute__")))
    (gg : findIn K (.ref C) "__getattr__" = some none) (noN : findIn K (.ref C) "number" = some none) (tkN : takerIn K C "number" = some none) (iC : findIn K (.ref C) "__init__" = some (some (.ref fI)))
    (tC : typeIn K (.ref fI) = some (.type "function")) (kC : keepIn K (.ref C) = true) (exC : subIn K (.ref C) (.type "BaseException") = some true) (tyC : typeIn K (.ref C) = some (.type "type")) (hdC : hasDictIn K C = true) (te : exmOne K (.ref C) (.ref C) = some true)
    (fn : K.lookup fI = some ⟨oc, od, .func (fnOf "__init__" "ParseError.__init__" (iA p1 p2) (iB q1 q2 q3 q4) iS .none .none doc pm an cdv ct), osl⟩) (cd : codeIn K cdv "ParseError.__init__" = true) : Txt K mg C fI :=
  ⟨mg_of X G gC, ⟨_, _, _, _, _, _, _, _, _, _, _, _, _, _, _, cls, tl⟩, ov, sa, ga, gg, noN, tkN, iC, tC, kC, exC, tyC, hdC, te, ⟨_, _, _, _, _, _, _, _, _, _, _, _, _, _, fn, cd⟩⟩
structure InitEnd (h h' : Heap) (x C dx t1 : Addr) (v : Value) : Prop where
  keep : ∀ b o, b ≠ x → h.get? b = some o → h'.get? b = some o
  obj : h'.get? x = some { cls := .ref C, dict := some dx, data := .fields #[.ref t1, .none, .none, .none, .bool false, .none] }
  dbig : h.objs.size ≤ dx
  dne : dx ≠ x
  ns : h'.Ns1 dx (fun y => if y = "number" then some v else none)
structure Made (h h' : Heap) (e C d : Addr) (v : Value) : Prop where
  keep : ∀ b o, h.get? b = some o → h'.get? b = some o
  new : h.objs.size ≤ e
  obj : ∃ oe vs, h'.get? e = some oe ∧ oe.cls = .ref C ∧ oe.dict = some d ∧ oe.data = .fields vs ∧ vs[1]? = some .none
  dbig : h.objs.size ≤ d
  dne : d ≠ e
  ns : h'.Ns1 d (fun y => if y = "number" then some v else none)
section
variable {prog : Program} {w : World} {A : Around} {E : Value → Shared → Prop} {R : Result → Shared → Prop} {s : Shared} {K : Frag} {mg : Str → Option Value} {C fI : Addr}
theorem init_run (T : Txt K mg C fI) {x t0 : Addr} {v : Value} (X : K.In s.heap) (lim : s.heap.NoLimit) (hx : s.heap.get? x = some (excO C t0)) (room : A.depth < recursionLimit)
    (hq : ∀ h' tk dx, InitEnd s.heap h' x C dx t0 v → R (.ok (.ret .none)) { s with heap := h', toks := tk }) :
    codeAny (model prog w) A (.call (.ref fI) ⟨[.ref x, v], []⟩) R s := by
  obtain ⟨oc, od, doc, pm, an, cdv, ct, osl, p1, p2, q1, q2, q3, q4, ho, hcd⟩ := T.fn
  refine Att.call_fn (binds := [("self", .ref x), ("number", v)]) X lim ho hcd room (BindsTo.of_eq (by first | rfl | with_unfolding_all rfl)) (by first | rfl | decide | with_unfolding_all rfl) (fun s₁ IC => ?_) rfl rfl rfl
  obtain ⟨h₁, tk₁, rfl⟩ := IC.toInCall.same
  have kp : ∀ b o, s.heap.get? b = some o → h₁.get? b = some o := IC.toInCall.keep
  have hn := IC.toInCall.ns
  have X₁ : K.In h₁ := X.keeps kp
  have hx₁ := kp _ _ hx
  show wpAny _ _ (execs _ _) _ _ _
  refine wpAny_execs_cons (plainObj_wpAny_Assign_Attribute ?_)
  refine G.ld_own (v := v) hn (by first | rfl | with_unfolding_all rfl | kernel_rfl) (G.ld_own (v := .ref x) hn (by first | rfl | with_unfolding_all rfl | kernel_rfl) ?_)
  refine set_plain X₁ (ox := excO C t0) (od := none) ⟨hx₁, rfl, rfl, trivial⟩ T.sa ?_
  refine G.first_store PySem.F.store_ValueError X₁ hx₁ T.ov T.tkN T.hdC fun h₃ tk₃ dx k₃ dn dne hx₃ hn₃ => ?_
  show wpAny _ _ (execs _ _) _ _ _
  have z : s.heap.objs.size < h₁.objs.size := hn.lt
  exact wpAny_execs_nil (hq h₃ tk₃ dx ⟨fun b o hb e => k₃ b o hb (kp b o e), hx₃, Nat.le_of_lt (Nat.lt_of_lt_of_le z dn), dne, hn₃⟩)
theorem made (T : Txt K mg C fI) {v : Value} (X : K.In s.heap) (lim : s.heap.NoLimit) (room : A.depth + 1 < recursionLimit)
    (hq : ∀ h' tk e d, Made s.heap h' e C d v → R (.ok (.ret (.ref e))) { s with heap := h', toks := tk }) :
    codeAny (model prog w) A (.call (.ref C) ⟨[v], []⟩) R s := by
  obtain ⟨nm, q, N, bs, bm, sn, sub, ab, col, dd, k0, k1, k2, k3, k5, hC, hbm⟩ := T.cls
  obtain ⟨hp, g, dr, tk, os⟩ := s
  have kp : ∀ b o, hp.get? b = some o → ((hp.push (kdv_tup [v])).push (excO C hp.objs.size)).get? b = some o := fun b o e => Heap.get?_push_of_some _ (Heap.get?_push_of_some _ e)
  have hget : ((hp.push (kdv_tup [v])).push (excO C hp.objs.size)).get? (hp.objs.size + 1) = some (excO C hp.objs.size) := by heap_get
  refine call_own PySem.F.excBase_ValueError (fun Y => excTail_contains Y bm hbm) (X _ _ hC) (looks_findIn X T.iC) (fun self => bind_fn X self T.tC) (by rw [sizeLine_eq]; exact (by decide : 1 ≤ 16777216)) ?_
  refine init_run (s := ⟨(hp.push (kdv_tup [v])).push (excO C hp.objs.size), g, dr, tk, os⟩) T (X.keeps kp) (lim.keeps kp) hget (show A.depth + 1 < recursionLimit from room) fun h' tk' dx ⟨k', hx, dn, dne, hns⟩ => ?_
  have old : ∀ b o, hp.get? b = some o → h'.get? b = some o := fun b o e => k' b o (Nat.ne_of_lt (Nat.lt_succ_of_lt (Heap.lt_size e))) (kp b o e)
  have big : hp.objs.size ≤ dx := by
    have q := dn
    have e1 : ((hp.push (kdv_tup [v])).push (excO C hp.objs.size)).objs.size = hp.objs.size + 1 + 1 := by rw [Heap.size_push, Heap.size_push]
    have q2 : ((hp.push (kdv_tup [v])).push (excO C hp.objs.size)).objs.size ≤ dx := q
    rw [e1] at q2
    exact Nat.le_trans (Nat.le_trans (Nat.le_succ _) (Nat.le_succ _)) q2
  exact ⟨rfl, hq h' tk' (hp.objs.size + 1) dx ⟨old, Nat.le_succ _, ⟨_, _, hx, rfl, rfl, rfl, rfl⟩, big, dne, hns⟩⟩
end
end OwnParseError
namespace OwnParseError
open PySem PySem.Spec PyProof.Rows L2
theorem relO {v : V} {v' : Value} (r : RelV v v') (f : Str) : RelO (List.lookup f [(("number" : Str), v)]) (if f = "number" then some v' else none) := by
  by_cases hw : f = "number"
  · subst hw
    rw [if_pos rfl, show List.lookup ("number" : Str) [(("number" : Str), v)] = some v by simp [List.lookup]]
    exact r
  · rw [if_neg hw]
    have qw : (f == ("number" : Str)) = false := by simpa using hw
    rw [show List.lookup f [(("number" : Str), v)] = none by simp [List.lookup, qw]]
    trivial
section
variable {X : Cx} {C fI : Addr}
/-- ParseError(e) -/
def tMk (C : Addr) (ta : TA) : L2.St → Hp → XK → Prop := fun σ H Q => ta σ H fun vs H1 => ∃ v, vs = [v] ∧ ∀ d, H1 d = none → Q (.ref C) (some d) (upd H1 d (.xd [(("number" : Str), v)]))
theorem pmk {a : Expr} {ta : TA} {p pos : Pos} {k : Nat} (T : OwnParseError.Txt X.K X.mg C fI) (hr : Room k X.A) (hg : Gl X "ParseError") (ha : PA X [a] ta)
    (he : starEach (a :: []) X.env = (false, eval a X.env) :: starEach [] X.env := by rfl) (hpl : (backTo pos (starEach [] X.env)).any (·.1) = false := by rfl) :
    PMk X (.Call (.Name "ParseError" p) [a] [] pos) (tMk C ta) := by
  intro pins s σ H Q I h
  refine wpAny_Call_Name_kw (ld_glob I hg T.gC ?_)
  refine PySem.W.callWith_K (h₀ := X.base) I.ok.mod.kin T.kC (thn (ha.run pos pins s σ H _ I h) fun us s1 ⟨vs, H1, I1, r1, v, ev, q1⟩ => ?_) he hpl
  subst ev
  refine ⟨I1.kIn, ?_⟩
  obtain ⟨v', rfl, rv⟩ := vals1 r1
  show wpAny _ _ (call (.ref C) [v']) _ _ _
  have lim := I1.nolimit
  obtain ⟨hp, g, dr, tk, os⟩ := s1
  refine wpAny_call (OwnParseError.made T I1.kIn lim (by have := hr.dp; omega) fun h' tk' e d M => ?_)
  show MkP X pins σ Q (.ref e) ⟨h', g, dr, tk', os⟩
  obtain ⟨oe, fv, hoe, hc, hd, hdat, h1⟩ := M.obj
  obtain ⟨G', g1, g2⟩ := restrict h' fun b => decide (b ≠ e)
  have gk : ∀ b, b ≠ e → G'.get? b = h'.get? b := fun b hb => g1 b (decide_eq_true hb)
  have ge : G'.get? e = none := g2 e (by simp)
  have old : ∀ b o, hp.get? b = some o → G'.get? b = some o := fun b o q => (gk b (Nat.ne_of_lt (Nat.lt_of_lt_of_le (Heap.lt_size q) M.new))).trans (M.keep b o q)
  have ob : ObjOk X.prog X.w (upd H1 d (.xd [(("number" : Str), v)])) G' d (.xd [(("number" : Str), v)]) := ⟨_, M.ns.at (fun o q => (gk d M.dne).trans q), fun f => relO rv f⟩
  have J : Inv X pins σ (upd H1 d (.xd [(("number" : Str), v)])) ⟨G', g, dr, tk', os⟩ := I1.laid (t' := tk') old M.dbig ob
  refine ⟨e, oe, fv, ⟨G', g, dr, tk', os⟩, _, .ref C, some d, rfl, J, fun b o q => ?_, ge, hoe, ⟨hc, hd⟩, hdat, h1, ?_, rfl, I1.bare, raises_own T.exC T.tyC, q1 d (I1.hok.fresh M.dbig)⟩
  · have q' : G'.get? b = some o := q
    by_cases hb : b = e
    · rw [hb, ge] at q'
      cases q'
    · exact (gk b hb).symm.trans q'
  · rw [upd_ne (Ne.symm M.dne)]
    exact I1.hok.fresh M.new

/-- n.number, n the exception that the suite holds at a -/
def tFld (C : Addr) (a : Addr) (cls : Value) (d : Option Addr) (te : TE) : TE := fun σ H Q => te σ H fun x H1 => x = .ref a ∧ cls = .ref C ∧ ∃ (dd : Addr) (v : V), d = some dd ∧ H1 dd = some (.xd [(("number" : Str), v)]) ∧ Q v H1
theorem pe_fld {a : Addr} {oe : Obj} {cls : Value} {d : Option Addr} {pn : List (Addr × Obj)} {e : Expr} {te : TE} {pos : Pos} (T : OwnParseError.Txt X.K X.mg C fI) (hz : Zc cls d oe) (hf : ∃ vs, oe.data = .fields vs) (he : PE (X.suite a ((a, oe) :: pn)) e te)
    (hb : attributeBase e "number" X.env (eval e X.env) = eval e X.env := by rfl) :
    PE (X.suite a ((a, oe) :: pn)) (.Attribute e "number" pos) (tFld C a cls d te) := by
  refine ⟨fun pins s σ H Q I h => ?_⟩
  refine attr_of hb (thn (he.run pins s σ H _ I h) fun u s1 ⟨x, H1, I1, rx, ex, ec, dd, v, ed, ea, q⟩ => ?_)
  subst ex ec ed
  obtain rfl : u = Value.ref a := rx
  obtain ⟨ha, _⟩ := I1.pin (a, oe) (List.mem_append_left _ List.mem_cons_self)
  obtain ⟨vs, hd⟩ := hf
  have hx : ObjOk X.prog X.w H1 s1.heap dd (.xd [(("number" : Str), v)]) := I1.hok dd _ ea
  obtain ⟨mA, hns, hr⟩ := hx
  obtain ⟨od, ho, hl⟩ := lookIn_ns hns
  have l : List.lookup ("number" : Str) [(("number" : Str), v)] = some v := by simp [List.lookup]
  obtain ⟨u, hu, ru⟩ := RelO.some_of (v := v) (o := mA "number") (by rw [← l]; exact hr "number")
  have J : PySem.W.InstAt s1.heap a oe C (some od) := ⟨ha, hz.1, by unfold PySem.W.notCls; rw [hd] <;> rfl, by rw [hz.2]; exact ho⟩
  exact PySem.HandSPX.exc_get I1.kIn J T.ga T.gg T.exC (PySem.W.findObj_own T.hdC T.noN rfl (by rw [hl, hu])) (handed_of ru) ⟨v, H1, I1.tok _, ru, q⟩
end
end OwnParseError

namespace G
open PySem PySem.Spec PyProof.Rows L2
def top (i : Nat) : Stmt := PySem.Challenge.pw_fingerbooks_k04_whole_texts_of_rows.main.body.getD i (.Pass ⟨0, 0, 0, 0⟩)
abbrev s_is_integer : Stmt := top 8
abbrev N_is_integer : List Str := ["value"]
theorem sc_is_integer : FnScope N_is_integer ["value"] (defScope s_is_integer) := ⟨rfl, rfl, rfl, by decide +kernel, rfl, by decide +kernel, by decide +kernel⟩
abbrev s_integer_of : Stmt := top 9
abbrev N_integer_of : List Str := ["text", "figures"]
theorem sc_integer_of : FnScope N_integer_of ["text"] (defScope s_integer_of) := ⟨rfl, rfl, rfl, by decide +kernel, rfl, by decide +kernel, by decide +kernel⟩
abbrev s_is_pair : Stmt := top 13
abbrev N_is_pair : List Str := ["value"]
theorem sc_is_pair : FnScope N_is_pair ["value"] (defScope s_is_pair) := ⟨rfl, rfl, rfl, by decide +kernel, rfl, by decide +kernel, by decide +kernel⟩
abbrev s_is_pair_within : Stmt := top 14
abbrev N_is_pair_within : List Str := ["value", "least", "greatest"]
theorem sc_is_pair_within : FnScope N_is_pair_within ["value", "least", "greatest"] (defScope s_is_pair_within) := ⟨rfl, rfl, rfl, by decide +kernel, rfl, by decide +kernel, by decide +kernel⟩
abbrev s_is_form : Stmt := top 15
abbrev N_is_form : List Str := ["value"]
theorem sc_is_form : FnScope N_is_form ["value"] (defScope s_is_form) := ⟨rfl, rfl, rfl, by decide +kernel, rfl, by decide +kernel, by decide +kernel⟩
abbrev s_are_forms : Stmt := top 16
abbrev N_are_forms : List Str := ["value", "form"]
theorem sc_are_forms : FnScope N_are_forms ["value"] (defScope s_are_forms) := ⟨rfl, rfl, rfl, by decide +kernel, rfl, by decide +kernel, by decide +kernel⟩
abbrev s_is_row : Stmt := top 17
abbrev N_is_row : List Str := ["value"]
theorem sc_is_row : FnScope N_is_row ["value"] (defScope s_is_row) := ⟨rfl, rfl, rfl, by decide +kernel, rfl, by decide +kernel, by decide +kernel⟩
abbrev s_check_row : Stmt := top 18
abbrev N_check_row : List Str := ["row"]
theorem sc_check_row : FnScope N_check_row ["row"] (defScope s_check_row) := ⟨rfl, rfl, rfl, by decide +kernel, rfl, by decide +kernel, by decide +kernel⟩
abbrev s_write_pair : Stmt := top 19
abbrev N_write_pair : List Str := ["pair"]
theorem sc_write_pair : FnScope N_write_pair ["pair"] (defScope s_write_pair) := ⟨rfl, rfl, rfl, by decide +kernel, rfl, by decide +kernel, by decide +kernel⟩
abbrev s_read_pair : Stmt := top 20
abbrev N_read_pair : List Str := ["text", "pair"]
theorem sc_read_pair : FnScope N_read_pair ["text"] (defScope s_read_pair) := ⟨rfl, rfl, rfl, by decide +kernel, rfl, by decide +kernel, by decide +kernel⟩
abbrev s_pair_of : Stmt := top 21
abbrev N_pair_of : List Str := ["text", "numbers", "part"]
theorem sc_pair_of : FnScope N_pair_of ["text"] (defScope s_pair_of) := ⟨rfl, rfl, rfl, by decide +kernel, rfl, by decide +kernel, by decide +kernel⟩
abbrev s_write_row : Stmt := top 22
abbrev N_write_row : List Str := ["row", "left", "right"]
theorem sc_write_row : FnScope N_write_row ["row"] (defScope s_write_row) := ⟨rfl, rfl, rfl, by decide +kernel, rfl, by decide +kernel, by decide +kernel⟩
abbrev s_read_row : Stmt := top 23
abbrev N_read_row : List Str := ["text", "row", "part"]
theorem sc_read_row : FnScope N_read_row ["text"] (defScope s_read_row) := ⟨rfl, rfl, rfl, by decide +kernel, rfl, by decide +kernel, by decide +kernel⟩
abbrev s_mirrored_row : Stmt := top 24
abbrev N_mirrored_row : List Str := ["row", "form"]
theorem sc_mirrored_row : FnScope N_mirrored_row ["row"] (defScope s_mirrored_row) := ⟨rfl, rfl, rfl, by decide +kernel, rfl, by decide +kernel, by decide +kernel⟩
abbrev s_mirrored_pair : Stmt := top 25
abbrev N_mirrored_pair : List Str := ["pair"]
theorem sc_mirrored_pair : FnScope N_mirrored_pair ["pair"] (defScope s_mirrored_pair) := ⟨rfl, rfl, rfl, by decide +kernel, rfl, by decide +kernel, by decide +kernel⟩
abbrev s__law_dice : Stmt := top 27
abbrev N__law_dice : List Str := ["_law_script", "_law_spot", "_law_cell", "_law_left"]
theorem sc__law_dice : FnScope N__law_dice ["_law_script", "_law_spot"] (defScope s__law_dice) := ⟨rfl, rfl, rfl, by decide +kernel, rfl, by decide +kernel, by decide +kernel⟩
abbrev s__law_roll : Stmt := top 28
abbrev N__law_roll : List Str := ["_law_dice_here", "_law_total", "_law_found", "_law_one", "_law_two"]
theorem sc__law_roll : FnScope N__law_roll ["_law_dice_here", "_law_total"] (defScope s__law_roll) := ⟨rfl, rfl, rfl, by decide +kernel, rfl, by decide +kernel, by decide +kernel⟩
abbrev s__law_pick : Stmt := top 29
abbrev N__law_pick : List Str := ["_law_dice_here", "_law_items"]
theorem sc__law_pick : FnScope N__law_pick ["_law_dice_here", "_law_items"] (defScope s__law_pick) := ⟨rfl, rfl, rfl, by decide +kernel, rfl, by decide +kernel, by decide +kernel⟩
abbrev s__law_pair_text : Stmt := top 30
abbrev N__law_pair_text : List Str := ["_law_pair"]
theorem sc__law_pair_text : FnScope N__law_pair_text ["_law_pair"] (defScope s__law_pair_text) := ⟨rfl, rfl, rfl, by decide +kernel, rfl, by decide +kernel, by decide +kernel⟩
abbrev s__law_row_text : Stmt := top 31
abbrev N__law_row_text : List Str := ["_law_row", "_law_form"]
theorem sc__law_row_text : FnScope N__law_row_text ["_law_row"] (defScope s__law_row_text) := ⟨rfl, rfl, rfl, by decide +kernel, rfl, by decide +kernel, by decide +kernel⟩
abbrev s__law_cut : Stmt := top 32
abbrev N__law_cut : List Str := ["_law_forms", "_law_found"]
theorem sc__law_cut : FnScope N__law_cut ["_law_forms"] (defScope s__law_cut) := ⟨rfl, rfl, rfl, by decide +kernel, rfl, by decide +kernel, by decide +kernel⟩
abbrev s__law_some_form : Stmt := top 33
abbrev N__law_some_form : List Str := ["_law_dice_here", "_law_high"]
theorem sc__law_some_form : FnScope N__law_some_form ["_law_dice_here", "_law_high"] (defScope s__law_some_form) := ⟨rfl, rfl, rfl, by decide +kernel, rfl, by decide +kernel, by decide +kernel⟩
abbrev s__law_some_row : Stmt := top 34
abbrev N__law_some_row : List Str := ["_law_dice_here", "_law_levels", "_law_high", "_law_forms", "_law_turn", "_law_form"]
theorem sc__law_some_row : FnScope N__law_some_row ["_law_dice_here", "_law_levels", "_law_high"] (defScope s__law_some_row) := ⟨rfl, rfl, rfl, by decide +kernel, rfl, by decide +kernel, by decide +kernel⟩
abbrev s__law_read : Stmt := top 35
abbrev N__law_read : List Str := ["_law_call", "e"]
theorem sc__law_read : FnScope N__law_read ["_law_call"] (defScope s__law_read) := ⟨rfl, rfl, rfl, by decide +kernel, rfl, by decide +kernel, by decide +kernel⟩
abbrev s__law_whole : Stmt := top 36
abbrev N__law_whole : List Str := ["_law_text", "_law_figures", "_law_sign"]
theorem sc__law_whole : FnScope N__law_whole ["_law_text"] (defScope s__law_whole) := ⟨rfl, rfl, rfl, by decide +kernel, rfl, by decide +kernel, by decide +kernel⟩
abbrev s__law_pair_read : Stmt := top 37
abbrev N__law_pair_read : List Str := ["_law_text", "_law_words"]
theorem sc__law_pair_read : FnScope N__law_pair_read ["_law_text"] (defScope s__law_pair_read) := ⟨rfl, rfl, rfl, by decide +kernel, rfl, by decide +kernel, by decide +kernel⟩
abbrev s__law_row_read : Stmt := top 38
abbrev N__law_row_read : List Str := ["_law_text", "_law_found", "_law_word", "_law_form"]
theorem sc__law_row_read : FnScope N__law_row_read ["_law_text"] (defScope s__law_row_read) := ⟨rfl, rfl, rfl, by decide +kernel, rfl, by decide +kernel, by decide +kernel⟩
abbrev s__law_bent : Stmt := top 39
abbrev N__law_bent : List Str := ["_law_dice_here", "_law_text", "_law_at", "_law_sign", "_law_way"]
theorem sc__law_bent : FnScope N__law_bent ["_law_dice_here", "_law_text"] (defScope s__law_bent) := ⟨rfl, rfl, rfl, by decide +kernel, rfl, by decide +kernel, by decide +kernel⟩
abbrev s__law_right : Stmt := top 40
abbrev N__law_right : List Str := ["_law_dice_here", "_law_great", "_law_pair", "_law_row", "_law_told", "_law_words", "_law_turn", "_law_due", "_law_line", "_law_text", "_law_word", "_law_one"]
theorem sc__law_right : FnScope N__law_right ["_law_dice_here"] (defScope s__law_right) := ⟨rfl, rfl, rfl, by decide +kernel, rfl, by decide +kernel, by decide +kernel⟩
abbrev s_law : Stmt := top 41
abbrev N_law : List Str := ["_law_script", "_law_spot", "_law_dice_here", "_law_turn", "_law_told", "_law_long", "_law_odd"]
theorem sc_law : FnScope N_law ["_law_script"] (defScope s_law) := ⟨rfl, rfl, rfl, by decide +kernel, rfl, by decide +kernel, by decide +kernel⟩
structure Txt (K : PySem.W.Frag) (mg : Str → Option Value) : Prop where
  isinstance : mg "isinstance" = none
  int : mg "int" = none
  bool : mg "bool" = none
  tuple : mg "tuple" = none
  list : mg "list" = none
  len : mg "len" = none
  max : mg "max" = none
  min : mg "min" = none
  abs : mg "abs" = none
  all : mg "all" = none
  range : mg "range" = none
  repr : mg "repr" = none
  str : mg "str" = none
  gMAX_FIGURES : ∃ u, mg "MAX_FIGURES" = some u ∧ RelV (.int 60) u
  g_TOO_GREAT : ∃ u, mg "_TOO_GREAT" = some u ∧ RelV (.int BIG) u
  gMAX_SIDE : ∃ u, mg "MAX_SIDE" = some u ∧ RelV (.int 7) u
  gMAX_LEVELS : ∃ u, mg "MAX_LEVELS" = some u ∧ RelV (.int 200) u
/-! ## the dice -/
section
variable {P : Program} {w : World} {K : PySem.W.Frag} {mg : Str → Option Value} {base : Heap}
theorem c_dice (T : Txt K mg) (D : DefAt K mg "_law_dice" s__law_dice ["_law_script", "_law_spot"]) : CalG P w K mg base 1 "_law_dice" ["_law_script", "_law_spot"] (spDice K) := by
  refine calOk D sc__law_dice (fun xs H Q E h => ?_) (fun f cdv A out s H xs Q E hgd hr h => ?_)
  · obtain ⟨a, ns, i, rfl, _⟩ := h
    rfl
  · obtain ⟨a, ns, i, rfl, hS, hz, k⟩ := h
    have nd := sc__law_dice.nd
    refine ⟨_, (pss_cons (ps_set (i := 2) nd rfl (.inl rfl) (pe_ifExp (pt_cmpR op_lt (pv 1) (pe_callB call_len_seq (by rfl) T.len (by decide +kernel) (pa_cons (pv 0) pa_nil)) (nomark _)) (pe_callTy call_int1 (by rfl) T.int (by decide +kernel) (pa_cons (pe_ix ix_list (pv 0) (pv 1) (fun _ _ => rfl)) pa_nil)) (pe_op op_add (pe_op op_mul pe_int (pv 1)) pe_int)))
      (pss_cons (ps_set (i := 3) nd rfl (.inl rfl) (pe_op op_mod (pe_callB (call_max2 rfl) (by rfl) T.max (by decide +kernel) (pa_cons pe_int (pa_cons (pe_op op_sub (pe_callB call_abs (by rfl) T.abs (by decide +kernel) (pa_cons (pv 2) pa_nil)) (pe_op op_pow pe_int pe_int)) pa_nil))) (pe_op op_mulW (pe_op op_pow pe_int pe_int) (pe_op op_pow pe_int pe_int))))
      (pss_one (ps_ret (pe_lst (pa_cons (pv 3) (pa_cons (pe_op op_add (pe_op op_add (pe_op op_add (pe_op op_mul (pe_op op_mod (pe_callB call_abs (by rfl) T.abs (by decide +kernel) (pa_cons (pv 2) pa_nil)) pe_int) pe_int) (pe_op op_mul pe_int (pv 1))) (pe_op op_mul pe_int (pe_callTy call_int1 (by rfl) T.int (by decide +kernel) (pa_cons (pe_cmpR op_lt (pv 2) pe_int (nomark _)) pa_nil)))) pe_int) (pa_cons pe_int pa_nil)))))))), ?_⟩
    refine ⟨_, rfl, _, rfl, _, _, rfl, .inl hS, _, _, rfl, rfl, _, rfl, ite2 (fun hi => ?_) (fun hi => ?_)⟩
    · have hlt : i < ns.length := by
        have := of_decide_eq_true hi
        rw [List.length_map] at this
        omega
      have hat : (ns.map V.int)[i]? = some (.int ns[i]) := by
        rw [List.getElem?_map, List.getElem?_eq_getElem hlt]
        rfl
      refine ⟨_, rfl, _, rfl, _, _, _, _, rfl, rfl, hS, atI_nat hat, .inl ⟨_, rfl, ?_⟩⟩
      refine ⟨_, rfl, _, rfl, _, _, rfl, rfl, ⟨by decide, by decide, by decide⟩, _, _, rfl, rfl, _, _, rfl, _, _, rfl, rfl, ⟨by decide, by decide, by decide⟩, _, _, rfl, rfl, ⟨by decide, by decide, by decide⟩, _, _, rfl, rfl, mul60, _, _, rfl, rfl, pos60, ?_⟩
      refine ⟨_, rfl, _, rfl, _, rfl, _, _, rfl, rfl, (by show (0 : Int) < 1152921504606846961; decide), _, _, rfl, rfl, .inr ⟨by decide, by decide⟩, _, rfl, _, _, rfl, rfl, .inl ⟨by decide, by decide⟩, _, _, rfl, rfl, _, rfl, _, _, rfl, rfl, .inr ⟨_, rfl, _, _, rfl, rfl, .inl ⟨by decide, by decide⟩, _, _, rfl, rfl, _, _, rfl, rfl, (by show 3 ≤ sizeLine; decide), fun p1 n1 => ?_⟩⟩
      exact k _ _ _ _ n1
    · refine ⟨_, rfl, _, _, rfl, rfl, .inl ⟨by decide, by decide⟩, _, _, rfl, rfl, ?_⟩
      refine ⟨_, rfl, _, rfl, _, _, rfl, rfl, ⟨by decide, by decide, by decide⟩, _, _, rfl, rfl, _, _, rfl, _, _, rfl, rfl, ⟨by decide, by decide, by decide⟩, _, _, rfl, rfl, ⟨by decide, by decide, by decide⟩, _, _, rfl, rfl, mul60, _, _, rfl, rfl, pos60, ?_⟩
      refine ⟨_, rfl, _, rfl, _, rfl, _, _, rfl, rfl, (by show (0 : Int) < 1152921504606846961; decide), _, _, rfl, rfl, .inr ⟨by decide, by decide⟩, _, rfl, _, _, rfl, rfl, .inl ⟨by decide, by decide⟩, _, _, rfl, rfl, _, rfl, _, _, rfl, rfl, .inr ⟨_, rfl, _, _, rfl, rfl, .inl ⟨by decide, by decide⟩, _, _, rfl, rfl, _, _, rfl, rfl, (by show 3 ≤ sizeLine; decide), fun p1 n1 => ?_⟩⟩
      exact k _ _ _ _ n1
theorem c_roll (T : Txt K mg) (D : DefAt K mg "_law_roll" s__law_roll ["_law_dice_here", "_law_total"]) : CalG P w K mg base 1 "_law_roll" ["_law_dice_here", "_law_total"] spRoll := by
  refine calOk D sc__law_roll (fun xs H Q E h => ?_) (fun f cdv A out s H xs Q E hgd hr h => ?_)
  · obtain ⟨d, t, rfl, _⟩ := h
    rfl
  · obtain ⟨d, t, rfl, ⟨l, sd, c, hd⟩, ht, hlog, k⟩ := h
    have nd := sc__law_roll.nd
    have fr : ∀ (u : HO) (b : Addr), H b = none → upd H d u b = none := fun u b e => by
      rw [upd_ne (fun q => by rw [q, hd] at e; cases e)]
      exact e
    refine ⟨_, (pss_cons (ps_if (pt_cmpR op_gt (pe_ix ix_list (pv 0) pe_int (fun _ _ => rfl)) pe_int (nomark _)) (pss_cons (ps_set (i := 2) nd rfl (.inl rfl) (pe_op op_mod (pe_callTy call_int1 (by rfl) T.int (by decide +kernel) (pa_cons (pe_ix ix_list (pv 0) pe_int (fun _ _ => rfl)) pa_nil)) (pv 1)))
        (pss_cons (ps_asg (pe_op op_fdivW (pe_ix ix_list (pv 0) pe_int (fun _ _ => rfl)) (pv 1)) (pg_sub (pv 0) pe_int set_list))
        (pss_one (ps_ret (pv 2))))) pss_nil)
      (pss_cons (ps_asg (pe_op op_add (pe_ix ix_list (pv 0) pe_int (fun _ _ => rfl)) pe_int) (pg_sub (pv 0) pe_int set_list))
      (pss_cons (ps_set (i := 3) nd rfl (.inl rfl) (pe_op op_mod (pe_callTy call_int1 (by rfl) T.int (by decide +kernel) (pa_cons (pe_op op_add (pe_ix ix_list (pv 0) pe_int (fun _ _ => rfl)) (pe_op op_mul pe_int (pe_ix ix_list (pv 0) pe_int (fun _ _ => rfl)))) pa_nil)) pe_int))
      (pss_cons (ps_set (i := 4) nd rfl (.inl rfl) (pe_op op_add (pe_op op_mul (pe_op op_mod (pe_callTy call_int1 (by rfl) T.int (by decide +kernel) (pa_cons (pe_op op_add (pe_op op_mulW (pv 3) (pv 3)) (pe_op op_mul pe_int (pe_ix ix_list (pv 0) pe_int (fun _ _ => rfl)))) pa_nil)) pe_int) pe_int) (pv 3)))
      (pss_one (ps_ret (pe_op op_mod (pe_callTy call_int1 (by rfl) T.int (by decide +kernel) (pa_cons (pe_op op_fdivW (pv 4) pe_int) pa_nil)) (pv 1)))))))), ?_⟩
    refine ⟨_, rfl, _, _, _, _, rfl, rfl, SqL.of hd, atI_nat (j := 0) rfl, _, _, rfl, rfl, _, rfl, ite2 (fun hl => ?_) (fun hl => ?_)⟩
    · refine ⟨_, rfl, _, _, _, _, rfl, rfl, SqL.of hd, atI_nat (j := 0) rfl, .inl ⟨_, rfl, _, rfl, _, _, rfl, rfl, ht, ?_⟩⟩
      refine ⟨_, rfl, _, _, _, _, rfl, rfl, SqL.of hd, atI_nat (j := 0) rfl, _, rfl, _, _, rfl, rfl, ⟨ht, hlog⟩, _, rfl, _, _, _, 0, rfl, rfl, hd, rfl, ?_⟩
      refine ⟨_, rfl, ?_⟩
      exact k _ _ (Int.emod_nonneg _ (by omega)) (Int.emod_lt_of_pos _ ht) (Mv.refl ⟨l, sd, c, hd⟩).rolled (fr _)
    · refine ⟨_, rfl, _, _, _, _, rfl, rfl, SqL.of hd, atI_nat (j := 2) rfl, _, _, rfl, rfl, _, rfl, _, _, _, 2, rfl, rfl, hd, rfl, ?_⟩
      have h1 : upd H d (.lst [.int l, .int sd, .int (c + 1)]) d = some (.lst [.int l, .int sd, .int (c + 1)]) := upd_same
      refine ⟨_, rfl, _, _, _, _, rfl, rfl, SqL.of h1, atI_nat (j := 1) rfl, _, rfl, _, _, _, _, rfl, rfl, SqL.of h1, atI_nat (j := 2) rfl, _, _, rfl, rfl, .inl ⟨by decide, by decide⟩, _, _, rfl, rfl, .inl ⟨_, rfl, _, _, rfl, rfl, (by show (0 : Int) < 2305843009213693669; decide), ?_⟩⟩
      have hb := Int.emod_lt_of_pos (sd + 32452843 * (c + 1)) (show (0 : Int) < 2305843009213693669 by decide)
      have hn := Int.emod_nonneg (sd + 32452843 * (c + 1)) (show (2305843009213693669 : Int) ≠ 0 by decide)
      have hs : ((sd + 32452843 * (c + 1)) % 2305843009213693669).natAbs < 2 ^ 62 := by
        have e : (2 : Nat) ^ 62 = 4611686018427387904 := by decide
        omega
      refine ⟨_, rfl, _, rfl, _, _, rfl, rfl, wide_mul hs hs (by decide) (by decide) (by decide), _, rfl, _, _, _, _, rfl, rfl, SqL.of h1, atI_nat (j := 2) rfl, _, _, rfl, rfl, .inl ⟨by decide, by decide⟩, _, _, rfl, rfl, .inl ⟨_, rfl, _, _, rfl, rfl, (by show (0 : Int) < 1152921504606846869; decide), _, _, rfl, rfl, .inr ⟨by decide, by decide⟩, _, rfl, _, _, rfl, rfl, ?_⟩⟩
      refine ⟨_, rfl, _, _, rfl, rfl, ⟨by decide, by decide +kernel⟩, .inl ⟨_, rfl, _, rfl, _, _, rfl, rfl, ht, ?_⟩⟩
      exact k _ _ (Int.emod_nonneg _ (by omega)) (Int.emod_lt_of_pos _ ht) (Mv.refl ⟨l, sd, c, hd⟩).rolled (fr _)
theorem c_pick (T : Txt K mg) (C__law_roll : CalG P w K mg base 1 "_law_roll" ["_law_dice_here", "_law_total"] spRoll) (D : DefAt K mg "_law_pick" s__law_pick ["_law_dice_here", "_law_items"]) : CalG P w K mg base 2 "_law_pick" ["_law_dice_here", "_law_items"] (spPick K) := by
  refine calOk D sc__law_pick (fun xs H Q E h => ?_) (fun f cdv A out s H xs Q E hgd hr h => ?_)
  · obtain ⟨d, a, ys, rfl, _⟩ := h
    rfl
  · obtain ⟨d, a, ys, rfl, hd, hS, ne, h0, hz, k⟩ := h
    have nd := sc__law_pick.nd
    refine ⟨_, (pss_one (ps_ret (pe_ix ix_list (pv 1) (pe_k C__law_roll hgd hr (by decide) rfl (pa_cons (pv 0) (pa_cons (pe_callB call_len_seq (by rfl) T.len (by decide +kernel) (pa_cons (pv 1) pa_nil)) pa_nil))) (fun _ _ => rfl)))), ?_⟩
    have small : ((ys.length : Nat) : Int).natAbs.log2 < 9000 := by
      have e : ((ys.length : Nat) : Int).natAbs = ys.length := Int.natAbs_natCast _
      rw [e]
      exact Nat.lt_of_le_of_lt (Nat.log2_le_self _) (by omega)
    refine ⟨_, rfl, _, rfl, _, rfl, _, _, rfl, .inl hS, _, _, rfl, hd, (by omega), small, fun r1 H1 a1 b1 m1 f1 => ?_⟩
    obtain ⟨i, rfl⟩ : ∃ i : Nat, r1 = (i : Int) := ⟨r1.toNat, by omega⟩
    have hi : i < ys.length := by omega
    refine ⟨_, _, _, _, rfl, rfl, m1.sql ne hS, atI_nat (List.getElem?_eq_getElem hi), k _ _ _ (List.getElem?_eq_getElem hi) m1 f1⟩
end


/-! ## is_integer, is_pair, is_form, are_forms, is_row: judges over data -/
section
variable {gq : Bool} {P : Program} {w : World} {K : PySem.W.Frag} {mg : Str → Option Value} {base : Heap}
theorem c_is_integer (T : Txt K mg) (D : DefAt K mg "is_integer" s_is_integer ["value"]) : CalQ gq P w K mg base 1 "is_integer" ["value"] (spJ intB) := by
  refine calOkQ D sc_is_integer (fun xs H Q E h => ?_) (fun f cdv A out s H xs Q E hgd hr h => ?_)
  · obtain ⟨x, d, rfl, _⟩ := h
    rfl
  · obtain ⟨x, d, rfl, hx, k⟩ := h
    have nd := sc_is_integer.nd
    refine ⟨_, (pss_one (ps_ret (pe_and (pe_callB call_isi (by rfl) T.isinstance (by decide +kernel) (pa_cons (pv 0) (pa_cons (pe_ty "int" rfl T.int (by decide +kernel)) pa_nil))) (pe_and (pe_not (pe_callB call_isi (by rfl) T.isinstance (by decide +kernel) (pa_cons (pv 0) (pa_cons (pe_ty "bool" rfl T.bool (by decide +kernel)) pa_nil)))) (pe_one (pe_chain op_lt op_lt (pe_un un_neg (pe_gv rfl T.g_TOO_GREAT)) (pv 0) (pe_gv rfl T.g_TOO_GREAT))))))), ?_⟩
    cases hx with
    | int i =>
      have k' : Q (.bl (smallB i)) H := k H (Same.refl _)
      refine ⟨_, rfl, _, _, _, _, true, rfl, .ty _, .base (.int i), kit_ty (by decide +kernel), true, rfl, iteT ?_⟩
      refine ⟨_, rfl, _, _, _, _, false, rfl, .ty _, .base (.int i), kit_ty (by decide +kernel), false, rfl, true, rfl, iteT ?_⟩
      refine ⟨_, rfl, _, rfl, _, _, rfl, rfl, _, rfl, ite2 (fun h1 => ?_) (fun h1 => ?_)⟩
      · refine ⟨_, _, rfl, rfl, ?_⟩
        have e : smallB i = decide (i < BIG) := by
          unfold smallB
          rw [h1]
          rfl
        rw [e] at k'
        exact k'
      · have e : smallB i = false := by
          unfold smallB
          rw [Bool.eq_false_iff.mpr h1]
          rfl
        rw [e] at k'
        exact k'
    | bl b =>
      refine ⟨_, rfl, _, _, _, _, true, rfl, .ty _, .base (.bl b), kit_ty (by decide +kernel), true, rfl, iteT ?_⟩
      refine ⟨_, rfl, _, _, _, _, true, rfl, .ty _, .base (.bl b), kit_ty (by decide +kernel), true, rfl, false, rfl, iteF ?_⟩
      exact k H (Same.refl _)
    | non => exact ⟨_, rfl, _, _, _, _, false, rfl, .ty _, Dx.ty .non, kit_ty (by decide +kernel), false, rfl, iteF (k H (Same.refl _))⟩
    | str x => exact ⟨_, rfl, _, _, _, _, false, rfl, .ty _, Dx.ty (.str x), kit_ty (by show kitB "str" _ = _; decide +kernel), false, rfl, iteF (k H (Same.refl _))⟩
    | lst h1 h2 => exact ⟨_, rfl, _, _, _, _, false, rfl, .ty _, Dx.ty (.lst h1 h2), kit_ty (by show kitB "list" _ = _; decide +kernel), false, rfl, iteF (k H (Same.refl _))⟩
    | tup h1 h2 => exact ⟨_, rfl, _, _, _, _, false, rfl, .ty _, Dx.ty (.tup h1 h2), kit_ty (by show kitB "tuple" _ = _; decide +kernel), false, rfl, iteF (k H (Same.refl _))⟩
    | dct h1 h2 => exact ⟨_, rfl, _, _, _, _, false, rfl, .ty _, Dx.ty (.dct h1 h2), kit_ty (by show kitB "dict" _ = _; decide +kernel), false, rfl, iteF (k H (Same.refl _))⟩
theorem c_is_pair (T : Txt K mg) (C_is_integer : CalQ gq P w K mg base 1 "is_integer" ["value"] (spJ intB)) (D : DefAt K mg "is_pair" s_is_pair ["value"]) : CalQ gq P w K mg base 2 "is_pair" ["value"] (spJ pairB) := by
  refine calOkQ D sc_is_pair (fun xs H Q E h => ?_) (fun f cdv A out s H xs Q E hgd hr h => ?_)
  · obtain ⟨x, d, rfl, _⟩ := h
    rfl
  · obtain ⟨x, d, rfl, hx, k⟩ := h
    have nd := sc_is_pair.nd
    refine ⟨_, (pss_one (ps_ret (pe_and (pe_callB call_isi (by rfl) T.isinstance (by decide +kernel) (pa_cons (pv 0) (pa_cons (pe_ty "tuple" rfl T.tuple (by decide +kernel)) pa_nil))) (pe_and (pe_cmpR op_eq (pe_callB call_len_seq (by rfl) T.len (by decide +kernel) (pa_cons (pv 0) pa_nil)) pe_int (nomark _)) (pe_and (pe_kq C_is_integer hgd hr (by decide) rfl (pa_cons (pe_ix ix_tup (pv 0) pe_int (fun _ _ => rfl)) pa_nil)) (pe_one (pe_kq C_is_integer hgd hr (by decide) rfl (pa_cons (pe_ix ix_tup (pv 0) pe_int (fun _ _ => rfl)) pa_nil)))))))), ?_⟩
    cases hx with
    | tup h1 h2 =>
      rename_i a xs ds
      have hl := h2.len
      refine ⟨_, rfl, _, _, _, _, true, rfl, .ty _, Dx.ty (.tup h1 h2), kit_ty (by show kitB "tuple" _ = _; decide +kernel), true, rfl, iteT ?_⟩
      refine ⟨_, rfl, _, _, rfl, .inr (SqT.of h1), rfl, _, rfl, ite2 (fun q => ?_) (fun q => ?_)⟩
      · have two : xs.length = 2 := by
          have := V.int.inj (of_decide_eq_true q)
          omega
        cases h2 with
        | nil => cases two
        | cons y1 r1 =>
          cases r1 with
          | nil => cases two
          | cons y2 r2 =>
            cases r2 with
            | cons _ _ => simp at two
            | nil =>
              refine ⟨_, rfl, _, _, _, _, rfl, rfl, SqT.of h1, atI_nat (j := 0) rfl, _, _, rfl, y1, fun H1 s1 => ?_⟩
              refine ⟨_, rfl, ite2 (fun q1 => ?_) (fun q1 => ?_)⟩
              · refine ⟨_, rfl, _, _, _, _, rfl, rfl, SqT.of (s1 _ _ h1), atI_nat (j := 1) rfl, _, _, rfl, y2.grow s1, fun H2 s2 => ?_⟩
                have e := k H2 (s1.trans s2)
                simp only [pairB, q1, Bool.true_and] at e
                exact e
              · have e := k H1 s1
                simp only [pairB, Bool.eq_false_iff.mpr q1, Bool.false_and] at e
                exact e
      · have e := k H (Same.refl _)
        have nf : pairB (.tuple ds) = false := by
          match ds, hl with
          | [], _ => rfl
          | [_], _ => rfl
          | [_, _], hl => exact absurd (decide_eq_true (show V.int (xs.length : Int) = V.int 2 by rw [hl]; rfl)) q
          | _ :: _ :: _ :: _, _ => rfl
        rw [nf] at e
        exact e
    | int i => exact ⟨_, rfl, _, _, _, _, false, rfl, .ty _, Dx.ty (.int i), kit_ty (by show kitB "int" _ = _; decide +kernel), false, rfl, iteF (k H (Same.refl _))⟩
    | bl b => exact ⟨_, rfl, _, _, _, _, false, rfl, .ty _, Dx.ty (.bl b), kit_ty (by show kitB "bool" _ = _; decide +kernel), false, rfl, iteF (k H (Same.refl _))⟩
    | non => exact ⟨_, rfl, _, _, _, _, false, rfl, .ty _, Dx.ty .non, kit_ty (by decide +kernel), false, rfl, iteF (k H (Same.refl _))⟩
    | str x => exact ⟨_, rfl, _, _, _, _, false, rfl, .ty _, Dx.ty (.str x), kit_ty (by show kitB "str" _ = _; decide +kernel), false, rfl, iteF (k H (Same.refl _))⟩
    | lst h1 h2 => exact ⟨_, rfl, _, _, _, _, false, rfl, .ty _, Dx.ty (.lst h1 h2), kit_ty (by show kitB "list" _ = _; decide +kernel), false, rfl, iteF (k H (Same.refl _))⟩
    | dct h1 h2 => exact ⟨_, rfl, _, _, _, _, false, rfl, .ty _, Dx.ty (.dct h1 h2), kit_ty (by show kitB "dict" _ = _; decide +kernel), false, rfl, iteF (k H (Same.refl _))⟩
theorem form_pair {d : PyData} (h : formB d = true) : pairB d = true := by
  match d, h with
  | .tuple [.int a, .int b], h =>
    have h' : (decide (0 ≤ a) && decide (a ≤ 7)) = true ∧ (decide (0 ≤ b) && decide (b ≤ 7)) = true := by simpa [formB, sideB] using h
    have g : ∀ i : Int, (decide (0 ≤ i) && decide (i ≤ 7)) = true → smallB i = true := fun i q => by
      have q' : 0 ≤ i ∧ i ≤ 7 := by simpa using q
      unfold smallB BIG
      rw [decide_eq_true (by omega), decide_eq_true (by omega)]
      rfl
    show (smallB a && smallB b) = true
    rw [g a h'.1, g b h'.2]
    rfl
  | .tuple [.none, _], h => simp [formB, sideB] at h
  | .tuple [.bool _, _], h => simp [formB, sideB] at h
  | .tuple [.str _, _], h => simp [formB, sideB] at h
  | .tuple [.list _, _], h => simp [formB, sideB] at h
  | .tuple [.tuple _, _], h => simp [formB, sideB] at h
  | .tuple [.dict _, _], h => simp [formB, sideB] at h
  | .tuple [.int _, .none], h => simp [formB, sideB] at h
  | .tuple [.int _, .bool _], h => simp [formB, sideB] at h
  | .tuple [.int _, .str _], h => simp [formB, sideB] at h
  | .tuple [.int _, .list _], h => simp [formB, sideB] at h
  | .tuple [.int _, .tuple _], h => simp [formB, sideB] at h
  | .tuple [.int _, .dict _], h => simp [formB, sideB] at h
  | .tuple [], h => simp [formB] at h
  | .tuple [_], h => simp [formB] at h
  | .tuple (_ :: _ :: _ :: _), h => simp [formB] at h
  | .none, h => simp [formB] at h
  | .bool _, h => simp [formB] at h
  | .int _, h => simp [formB] at h
  | .str _, h => simp [formB] at h
  | .list _, h => simp [formB] at h
  | .dict _, h => simp [formB] at h
theorem pair_ints {d : PyData} (h : pairB d = true) : ∃ a b, d = .tuple [.int a, .int b] := by
  match d, h with
  | .tuple [a, b], h =>
    have h' : intB a = true ∧ intB b = true := by simpa [pairB] using h
    match a, b, h' with
    | .int i, .int j, _ => exact ⟨i, j, rfl⟩
    | .none, _, h => simp [intB] at h
    | .bool _, _, h => simp [intB] at h
    | .str _, _, h => simp [intB] at h
    | .list _, _, h => simp [intB] at h
    | .tuple _, _, h => simp [intB] at h
    | .dict _, _, h => simp [intB] at h
    | .int _, .none, h => simp [intB] at h
    | .int _, .bool _, h => simp [intB] at h
    | .int _, .str _, h => simp [intB] at h
    | .int _, .list _, h => simp [intB] at h
    | .int _, .tuple _, h => simp [intB] at h
    | .int _, .dict _, h => simp [intB] at h
  | .tuple [], h => simp [pairB] at h
  | .tuple [_], h => simp [pairB] at h
  | .tuple (_ :: _ :: _ :: _), h => simp [pairB] at h
  | .none, h => simp [pairB] at h
  | .bool _, h => simp [pairB] at h
  | .int _, h => simp [pairB] at h
  | .str _, h => simp [pairB] at h
  | .list _, h => simp [pairB] at h
  | .dict _, h => simp [pairB] at h
def pairWithin (d : PyData) (lo hi : Int) : Bool := pairB d && match d with
  | .tuple [.int a, .int b] => decide (lo ≤ min a b) && decide (max a b ≤ hi)
  | _ => false
def spPairWithin : Sp := fun vs H Q _ => ∃ (x : V) (d : PyData) (lo hi : Int), vs = [x, .int lo, .int hi] ∧ Dx H x d ∧ ∀ H', Same H H' → Q (.bl (pairWithin d lo hi)) H'
theorem c_is_pair_within (T : Txt K mg) (C_is_pair : CalQ gq P w K mg base 2 "is_pair" ["value"] (spJ pairB)) (D : DefAt K mg "is_pair_within" s_is_pair_within ["value", "least", "greatest"]) : CalQ gq P w K mg base 3 "is_pair_within" ["value", "least", "greatest"] spPairWithin := by
  refine calOkQ D sc_is_pair_within (fun xs H Q E h => ?_) (fun f cdv A out s H xs Q E hgd hr h => ?_)
  · obtain ⟨x, d, lo, hi, rfl, _⟩ := h
    rfl
  · obtain ⟨x, d, lo, hi, rfl, hx, k⟩ := h
    have nd := sc_is_pair_within.nd
    refine ⟨_, (pss_one (ps_ret (pe_and (pe_kq C_is_pair hgd hr (by decide) rfl (pa_cons (pv 0) pa_nil)) (pe_and (pe_cmpR op_le (pv 1) (pe_callB (cr_min2T rfl hr.units) (by rfl) T.min (by decide +kernel) (pa_cons (pv 0) pa_nil)) (nomark _)) (pe_one (pe_cmpR op_le (pe_callB (cr_max2T rfl hr.units) (by rfl) T.max (by decide +kernel) (pa_cons (pv 0) pa_nil)) (pv 2) (nomark _))))))), ?_⟩
    refine ⟨_, rfl, _, _, rfl, hx, fun H1 s1 => ⟨_, rfl, ite2 (fun q => ?_) (fun q => ?_)⟩⟩
    · obtain ⟨a, b, rfl⟩ := pair_ints q
      have hx1 := hx.grow s1
      have e := k H1 s1
      unfold pairWithin at e
      rw [q, Bool.true_and] at e
      replace e : Q (.bl (decide (lo ≤ min a b) && decide (max a b ≤ hi))) H1 := e
      cases hx1 with
      | tup h1 h2 =>
        cases h2 with
        | cons y1 r1 =>
          cases r1 with
          | cons y2 r2 =>
            cases r2
            cases y1
            cases y2
            refine ⟨_, rfl, _, rfl, _, _, _, rfl, h1, _, _, rfl, rfl, _, rfl, ite2 (fun q1 => ?_) (fun q1 => ?_)⟩
            · refine ⟨_, rfl, _, _, _, rfl, h1, _, rfl, _, _, rfl, rfl, ?_⟩
              rw [show decide (lo ≤ min a b) = true from q1, Bool.true_and] at e
              exact e
            · rw [show decide (lo ≤ min a b) = false from Bool.eq_false_iff.mpr q1, Bool.false_and] at e
              exact e
    · have e := k H1 s1
      unfold pairWithin at e
      rw [Bool.eq_false_iff.mpr q, Bool.false_and] at e
      exact e
theorem within_form (d : PyData) : pairWithin d 0 7 = formB d := by
  unfold pairWithin
  cases h : formB d with
  | true =>
    obtain ⟨a, b, rfl⟩ := pair_ints (form_pair h)
    rw [form_pair h, Bool.true_and]
    simp only [formB, sideB, Bool.and_eq_true, decide_eq_true_eq] at h
    rw [Bool.and_eq_true, decide_eq_true_eq, decide_eq_true_eq]
    omega
  | false =>
    cases hp : pairB d with
    | false => rfl
    | true =>
      obtain ⟨a, b, rfl⟩ := pair_ints hp
      rw [Bool.true_and]
      simp only [formB, sideB] at h
      rw [Bool.eq_false_iff] at h ⊢
      intro z
      refine h ?_
      rw [Bool.and_eq_true, decide_eq_true_eq, decide_eq_true_eq] at z
      simp only [Bool.and_eq_true, decide_eq_true_eq]
      omega
theorem c_is_form (T : Txt K mg) (C_is_pair_within : CalQ gq P w K mg base 3 "is_pair_within" ["value", "least", "greatest"] spPairWithin) (D : DefAt K mg "is_form" s_is_form ["value"]) : CalQ gq P w K mg base 4 "is_form" ["value"] (spJ formB) := by
  refine calOkQ D sc_is_form (fun xs H Q E h => ?_) (fun f cdv A out s H xs Q E hgd hr h => ?_)
  · obtain ⟨x, d, rfl, _⟩ := h
    rfl
  · obtain ⟨x, d, rfl, hx, k⟩ := h
    have nd := sc_is_form.nd
    refine ⟨_, (pss_one (ps_ret (pe_kq C_is_pair_within hgd hr (by decide) rfl (pa_cons (pv 0) (pa_cons pe_int (pa_cons (pe_gv rfl T.gMAX_SIDE) pa_nil)))))), ?_⟩
    refine ⟨_, rfl, x, d, 0, 7, rfl, hx, fun H1 s1 => ?_⟩
    rw [within_form]
    exact k H1 s1
theorem c_are_forms (T : Txt K mg) (C_is_form : CalQ gq P w K mg base 4 "is_form" ["value"] (spJ formB)) (D : DefAt K mg "are_forms" s_are_forms ["value"]) : CalQ gq P w K mg base 5 "are_forms" ["value"] (spJ formsB) := by
  refine calOkQ D sc_are_forms (fun xs H Q E h => ?_) (fun f cdv A out s H xs Q E hgd hr h => ?_)
  · obtain ⟨x, d, rfl, _⟩ := h
    rfl
  · obtain ⟨x, d, rfl, hx, k⟩ := h
    have nd := sc_are_forms.nd
    refine ⟨_, (pss_one (ps_ret (pe_and (pe_callB call_isi (by rfl) T.isinstance (by decide +kernel) (pa_cons (pv 0) (pa_cons (pe_ty "tuple" rfl T.tuple (by decide +kernel)) pa_nil))) (pe_and (pe_cmpR op_le (pe_callB call_len_seq (by rfl) T.len (by decide +kernel) (pa_cons (pv 0) pa_nil)) (pe_gv rfl T.gMAX_LEVELS) (nomark _)) (pe_one (pe_callB (cr_all rfl) (by rfl) T.all (by decide +kernel) (pa_cons (pe_lc (own := [("form", 1)]) (g := gName 1) (by rfl) nd (pi_tup (pv 0)) (blkOk_by (own := [("form", 1)]) (N := N_are_forms) (sc := defScope s_are_forms) (by decide +kernel)) (fun _ _ _ _ _ => pg_name (i := 1) nd rfl (.inl rfl)) (fun _ _ _ _ _ => pts_nil) (fun _ _ _ _ _ => pe_kq C_is_form hgd hr (by decide) rfl (pa_cons (pv 1) pa_nil))) pa_nil))))))), ?_⟩
    cases hx with
    | tup h1 h2 =>
      rename_i a xs ds
      have hl := h2.len
      refine ⟨_, rfl, _, _, _, _, true, rfl, .ty _, Dx.ty (.tup h1 h2), kit_ty (by show kitB "tuple" _ = _; decide +kernel), true, rfl, iteT ?_⟩
      refine ⟨_, rfl, _, _, rfl, .inr (SqT.of h1), _, _, rfl, rfl, _, rfl, ite2 (fun q => ?_) (fun q => ?_)⟩
      · have few : xs.length ≤ 200 := by
          have := of_decide_eq_true q
          omega
        refine ⟨_, rfl, a, rfl, ⟨_, SqT.of h1⟩, fun Dl nD => ?_⟩
        refine lc_tup (K := K) (a := a) (xs := xs) (fun i H' => Same H H' ∧ H' Dl = some (.lst (((ds.take i).map formB).map V.bl))) ?_ ?_ ?_ ?_
        · exact ⟨same_new nD, upd_same⟩
        · rintro i H' _ ⟨s1, _⟩
          exact SqT.of (s1 _ _ h1)
        · rintro i x H' hi ⟨s1, hD⟩
          obtain ⟨d, hd, hx⟩ := h2.get i x hi
          refine ⟨rfl, ?_⟩
          refine ⟨_, rfl, _, d, rfl, hx.grow s1, fun H2 s2 => ?_⟩
          refine ⟨_, s2 _ _ hD, ?_, Same.put (s1.trans s2) nD, ?_⟩
          · rw [List.length_map, List.length_map, List.length_take]
            exact small1000 (by omega)
          · rw [upd_same, List.take_add_one, hd, List.map_append, List.map_append]
            rfl
        · rintro H' ⟨s1, hD⟩
          refine ⟨Dl, _, rfl, SqL.of hD, ?_⟩
          have e := k H' s1
          have ef : formsB (.tuple ds) = ((ds.take xs.length).map formB).all id := by
            rw [hl, List.take_length]
            simp only [formsB]
            rw [decide_eq_true (by omega), Bool.true_and, List.all_map]
            rfl
          rw [ef] at e
          exact e
      · have e := k H (Same.refl _)
        have nf : formsB (.tuple ds) = false := by
          simp only [formsB]
          rw [decide_eq_false (fun z => q (decide_eq_true (by omega))), Bool.false_and]
        rw [nf] at e
        exact e
    | int i => exact ⟨_, rfl, _, _, _, _, false, rfl, .ty _, Dx.ty (.int i), kit_ty (by show kitB "int" _ = _; decide +kernel), false, rfl, iteF (k H (Same.refl _))⟩
    | bl b => exact ⟨_, rfl, _, _, _, _, false, rfl, .ty _, Dx.ty (.bl b), kit_ty (by show kitB "bool" _ = _; decide +kernel), false, rfl, iteF (k H (Same.refl _))⟩
    | non => exact ⟨_, rfl, _, _, _, _, false, rfl, .ty _, Dx.ty .non, kit_ty (by decide +kernel), false, rfl, iteF (k H (Same.refl _))⟩
    | str x => exact ⟨_, rfl, _, _, _, _, false, rfl, .ty _, Dx.ty (.str x), kit_ty (by show kitB "str" _ = _; decide +kernel), false, rfl, iteF (k H (Same.refl _))⟩
    | lst h1 h2 => exact ⟨_, rfl, _, _, _, _, false, rfl, .ty _, Dx.ty (.lst h1 h2), kit_ty (by show kitB "list" _ = _; decide +kernel), false, rfl, iteF (k H (Same.refl _))⟩
    | dct h1 h2 => exact ⟨_, rfl, _, _, _, _, false, rfl, .ty _, Dx.ty (.dct h1 h2), kit_ty (by show kitB "dict" _ = _; decide +kernel), false, rfl, iteF (k H (Same.refl _))⟩
theorem forms_all {ds : List PyData} (h : formsB (.tuple ds) = true) : ds.length ≤ 200 ∧ ∀ d ∈ ds, formB d = true := by
  have h' : ds.length ≤ 200 ∧ ds.all formB = true := by
    simp only [formsB, Bool.and_eq_true, decide_eq_true_eq] at h
    exact h
  exact ⟨h'.1, fun d hd => List.all_eq_true.mp h'.2 d hd⟩
theorem form_ints {d : PyData} (h : formB d = true) : ∃ a b, d = .tuple [.int a, .int b] := pair_ints (form_pair h)
theorem form_plain {d : PyData} (h : formB d = true) : d.canLay0 = true ∧ d.depth ≤ 1 ∧ d.hasDict = false := by
  obtain ⟨a, b, rfl⟩ := form_ints h
  exact ⟨by simp [PyData.canLay0, PyData.canLayAll0], by simp [PyData.depth, PyData.depthAll], by simp [PyData.hasDict, PyData.hasDictAll]⟩
theorem dictAll0 : ∀ (xs : List PyData), (∀ x ∈ xs, x.hasDict = false) → PyData.hasDictAll xs = false
  | [], _ => by simp [PyData.hasDictAll]
  | x :: r, h => by
    rw [PyData.hasDictAll, h x List.mem_cons_self, dictAll0 r fun y hy => h y (List.mem_cons_of_mem _ hy)]
    rfl
theorem forms_plain {ds : List PyData} (h : ∀ d ∈ ds, formB d = true) : SeqAt.shaped (.tuple ds) = true ∧ (PyData.tuple ds).hasDict = false := by
  have q1 : PyData.canLayAll0 ds = true := by
    have := canAll id ds fun d hd => (form_plain (h d hd)).1
    rwa [List.map_id] at this
  have q2 : PyData.depthAll ds ≤ 1 := by
    have := depthAll0 1 id ds fun d hd => (form_plain (h d hd)).2.1
    rwa [List.map_id] at this
  refine ⟨?_, ?_⟩
  · show (PyData.canLay0 (.tuple ds) && decide (PyData.depth (.tuple ds) ≤ 64)) = true
    rw [Bool.and_eq_true_iff]
    exact ⟨by simp only [PyData.canLay0]; exact q1, decide_eq_true (by simp only [PyData.depth]; omega)⟩
  · simp only [PyData.hasDict]
    exact dictAll0 ds fun d hd => (form_plain (h d hd)).2.2
theorem c_is_row (T : Txt K mg) (C_are_forms : CalQ gq P w K mg base 5 "are_forms" ["value"] (spJ formsB)) (D : DefAt K mg "is_row" s_is_row ["value"]) : CalQ gq P w K mg base 6 "is_row" ["value"] (spJ rowB) := by
  refine calOkQ D sc_is_row (fun xs H Q E h => ?_) (fun f cdv A out s H xs Q E hgd hr h => ?_)
  · obtain ⟨x, d, rfl, _⟩ := h
    rfl
  · obtain ⟨x, d, rfl, hx, k⟩ := h
    have nd := sc_is_row.nd
    refine ⟨_, (pss_one (ps_ret (pe_and (pe_kq C_are_forms hgd hr (by decide) rfl (pa_cons (pv 0) pa_nil)) (pe_one (pe_or (pe_cmpR (op_eqD hr.units) (pv 0) (pe_tup pa_nil) (nomark _)) (pe_one (pe_cmpR (op_neD hr.units) (pe_ix ix_tup (pv 0) (pe_un un_neg pe_int) (fun _ _ => rfl)) (pe_tup (pa_cons pe_int (pa_cons pe_int pa_nil))) (nomark _)))))))), ?_⟩
    refine ⟨_, rfl, _, d, rfl, hx, fun H1 s1 => ⟨_, rfl, ite2 (fun q => ?_) (fun q => ?_)⟩⟩
    · obtain ⟨ds, rfl⟩ : ∃ ds, d = .tuple ds := by
        match d, q with
        | .tuple ds, _ => exact ⟨ds, rfl⟩
        | .none, q => simp [formsB] at q
        | .bool _, q => simp [formsB] at q
        | .int _, q => simp [formsB] at q
        | .str _, q => simp [formsB] at q
        | .list _, q => simp [formsB] at q
        | .dict _, q => simp [formsB] at q
      obtain ⟨few, allf⟩ := forms_all q
      obtain ⟨sh, nodict⟩ := forms_plain allf
      have e0 : rowB (.tuple ds) = (ds.isEmpty || !PyData.eqv (ds.getLastD .none) zeroD) := by
        simp only [rowB]
        rw [q, Bool.true_and]
      have hx1 := hx.grow s1
      refine ⟨_, rfl, (by show 0 ≤ sizeLine; decide), fun p np => ?_⟩
      refine ⟨.tuple ds, .tuple [], (hx1.grow (same_new np)).dp nodict, .tup (SqT.of upd_same) .nil, sh, (by decide +kernel), _, rfl, ite2 (fun q1 => ?_) (fun q1 => ?_)⟩
      · have e := k _ (s1.trans (same_new (o := .tup []) np))
        have em : ds = [] := by
          match ds, q1 with
          | [], _ => rfl
          | _ :: _, q1 => simp [PyData.eqv, PyData.eqvAll] at q1
        rw [e0, em] at e
        exact e
      · have ne : ds ≠ [] := fun z => by
          rw [z] at q1
          exact q1 (by decide +kernel)
        cases hx1 with
        | tup h1 h2 =>
          rename_i a ys
          have hl := h2.len
          obtain ⟨ys0, y, rfl⟩ : ∃ ys0 y, ys = ys0 ++ [y] := by
            rcases List.eq_nil_or_concat ys with z | ⟨i, y, z⟩
            · rw [z] at hl
              exact absurd (List.eq_nil_of_length_eq_zero hl.symm) ne
            · exact ⟨i, y, by rw [z, List.concat_eq_append]⟩
          obtain ⟨dy, hdy, hy⟩ := h2.get ys0.length y (by simp)
          have last : ds.getLastD .none = dy := by
            rw [List.getLastD_eq_getLast?, List.getLast?_eq_getElem?]
            have : ds.length - 1 = ys0.length := by
              rw [← hl, List.length_append]
              simp
            rw [this, hdy]
            rfl
          have fy : formB dy = true := allf dy (List.mem_of_getElem? hdy)
          obtain ⟨c1, c2, c3⟩ := form_plain fy
          refine ⟨_, rfl, _, rfl, _, _, _, _, rfl, rfl, SqT.of (same_new np _ _ h1), atI_last ys0 y, ?_⟩
          refine ⟨(by show 2 ≤ sizeLine; decide), fun p2 np2 => ?_⟩
          refine ⟨dy, zeroD, ((hy.grow (same_new np)).grow (same_new np2)).dp c3, .tup (SqT.of upd_same) (.cons (.int 0) (.cons (.int 0) .nil)), ?_, (by decide +kernel), ?_⟩
          · show (PyData.canLay0 dy && decide (PyData.depth dy ≤ 64)) = true
            rw [c1, decide_eq_true (by omega)]
            rfl
          · have e := k _ ((s1.trans (same_new (o := .tup []) np)).trans (same_new (o := .tup [.int 0, .int 0]) np2))
            have em : ds.isEmpty = false := by
              cases ds with
              | nil => exact absurd rfl ne
              | cons _ _ => rfl
            rw [e0, last, em, Bool.false_or] at e
            exact e
    · have e := k H1 s1
      have nf : rowB d = false := by
        match d, q with
        | .tuple ds, q =>
          simp only [rowB]
          rw [Bool.eq_false_iff.mpr q, Bool.false_and]
        | .none, _ => rfl
        | .bool _, _ => rfl
        | .int _, _ => rfl
        | .str _, _ => rfl
        | .list _, _ => rfl
        | .dict _, _ => rfl
      rw [nf] at e
      exact e
end

/-! ## the law's rows: lists of pairs of numbers -/
def formD (f : Int × Int) : PyData := .tuple [.int f.1, .int f.2]
def rowD (fs : List (Int × Int)) : PyData := .tuple (fs.map formD)
def cutF (fs : List (Int × Int)) : List (Int × Int) := (fs.reverse.dropWhile fun f => decide (f = (0, 0))).reverse
theorem cutF_nil : cutF [] = [] := rfl
theorem cutF_zero (fs : List (Int × Int)) : cutF (fs ++ [(0, 0)]) = cutF fs := by
  unfold cutF
  rw [List.reverse_append]
  simp
theorem cutF_last (fs : List (Int × Int)) {f : Int × Int} (h : f ≠ (0, 0)) : cutF (fs ++ [f]) = fs ++ [f] := by
  unfold cutF
  rw [List.reverse_append]
  simp [h]
theorem cutF_cut (fs : List (Int × Int)) : cutF (cutF fs) = cutF fs := by
  unfold cutF
  rw [List.reverse_reverse]
  congr 1
  generalize fs.reverse = l
  induction l with
  | nil => rfl
  | cons x r ih =>
    by_cases h : x = (0, 0)
    · simp [h, ih]
    · simp [h]
theorem cutF_sub (fs : List (Int × Int)) : (cutF fs).length ≤ fs.length ∧ ∀ f ∈ cutF fs, f ∈ fs := by
  unfold cutF
  have h1 := (List.dropWhile_suffix (l := fs.reverse) fun f => decide (f = (0, 0)))
  refine ⟨?_, fun f hf => ?_⟩
  · have := h1.length_le
    simpa using this
  · have := h1.subset (List.mem_reverse.mp hf)
    exact List.mem_reverse.mp this
theorem formD_eqv (f : Int × Int) : PyData.eqv (formD f) zeroD = decide (f = (0, 0)) := by
  obtain ⟨a, b⟩ := f
  simp only [formD, zeroD, PyData.eqv, PyData.eqvAll, Bool.and_true]
  rw [Bool.eq_iff_iff]
  simp
theorem forms_flat (fs : List (Int × Int)) : PyData.canLayAll0 (fs.map formD) = true ∧ PyData.depthAll (fs.map formD) ≤ 1 ∧ PyData.hasDictAll (fs.map formD) = false := by
  refine ⟨canAll _ _ fun f _ => by simp [formD, PyData.canLay0, PyData.canLayAll0], depthAll0 1 _ _ fun f _ => by simp [formD, PyData.depth, PyData.depthAll], ?_⟩
  refine dictAll0 _ fun d hd => ?_
  obtain ⟨f, _, rfl⟩ := List.mem_map.mp hd
  simp [formD, PyData.hasDict, PyData.hasDictAll]
theorem eqv_nil (ds : List PyData) : PyData.eqv (.list ds) (.list []) = ds.isEmpty := by
  cases ds with
  | nil => simp [PyData.eqv, PyData.eqvAll]
  | cons x r => simp [PyData.eqv, PyData.eqvAll]
theorem shapedL (fs : List (Int × Int)) : SeqAt.shaped (.list (fs.map formD)) = true := by
  obtain ⟨q1, q2, _⟩ := forms_flat fs
  show (PyData.canLay0 (.list _) && decide (PyData.depth (.list _) ≤ 64)) = true
  rw [Bool.and_eq_true_iff]
  exact ⟨by simp only [PyData.canLay0]; exact q1, decide_eq_true (by simp only [PyData.depth]; omega)⟩
theorem shapedT (fs : List (Int × Int)) : SeqAt.shaped (rowD fs) = true := by
  obtain ⟨q1, q2, _⟩ := forms_flat fs
  show (PyData.canLay0 (.tuple _) && decide (PyData.depth (.tuple _) ≤ 64)) = true
  rw [Bool.and_eq_true_iff]
  exact ⟨by simp only [PyData.canLay0]; exact q1, decide_eq_true (by simp only [PyData.depth]; omega)⟩
theorem shapedF (f : Int × Int) : SeqAt.shaped (formD f) = true := by
  show (PyData.canLay0 (.tuple _) && decide (PyData.depth (.tuple _) ≤ 64)) = true
  rw [Bool.and_eq_true_iff]
  exact ⟨by simp [PyData.canLay0, PyData.canLayAll0], decide_eq_true (by simp [PyData.depth, PyData.depthAll])⟩
theorem noDictF (f : Int × Int) : (formD f).hasDict = false := by simp [formD, PyData.hasDict, PyData.hasDictAll]
theorem noDictT (fs : List (Int × Int)) : (rowD fs).hasDict = false := by
  simp only [rowD, PyData.hasDict]
  exact (forms_flat fs).2.2
def Side (n : Int) (f : Int × Int) : Prop := 0 ≤ f.1 ∧ f.1 ≤ n ∧ 0 ≤ f.2 ∧ f.2 ≤ n
theorem formB_D {f : Int × Int} (h : Side 7 f) : formB (formD f) = true := by
  obtain ⟨h1, h2, h3, h4⟩ := h
  simp [formB, formD, sideB, h1, h2, h3, h4]
theorem rowB_D {fs : List (Int × Int)} (h : ∀ f ∈ fs, Side 7 f) (hl : fs.length ≤ 200) (hc : cutF fs = fs) : rowB (rowD fs) = true := by
  have q1 : formsB (rowD fs) = true := by
    simp only [rowD, formsB]
    rw [List.length_map, decide_eq_true hl, Bool.true_and, List.all_eq_true]
    intro d hd
    obtain ⟨f, hf, rfl⟩ := List.mem_map.mp hd
    exact formB_D (h f hf)
  simp only [rowD, rowB] at q1 ⊢
  rw [q1, Bool.true_and]
  rcases List.eq_nil_or_concat fs with z | ⟨gs, g, z⟩
  · rw [z]
    rfl
  · rw [List.concat_eq_append] at z
    subst z
    have ng : g ≠ (0, 0) := fun e => by
      rw [e, cutF_zero] at hc
      have := (cutF_sub gs).1
      rw [hc, List.length_append, List.length_singleton] at this
      omega
    have el : ((gs ++ [g]).map formD).getLastD .none = formD g := by simp
    rw [el, formD_eqv, decide_eq_false ng]
    simp
def spCut : Sp := fun vs H Q _ => ∃ (d a : Addr) (fs : List (Int × Int)) (xs : List V), vs = [.ref a] ∧ DiceAt H d ∧ a ≠ d ∧ H a = some (.lst xs) ∧ DxAll (hide d H) xs (fs.map formD) ∧ fs.length ≤ 1000 ∧
  ∀ (p : Addr) (H' : Hp), Mv d H H' → Dx (hide d H') (.ref p) (rowD (cutF fs)) → Q (.ref p) H'
def spSomeForm : Sp := fun vs H Q _ => ∃ (d : Addr) (h : Int), vs = [.ref d, .int h] ∧ DiceAt H d ∧ 0 ≤ h ∧ h ≤ 100 ∧
  ∀ (p : Addr) (f : Int × Int) (H' : Hp), Side h f → Mv d H H' → Dx (hide d H') (.ref p) (formD f) → Q (.ref p) H'
def spSomeRow : Sp := fun vs H Q _ => ∃ (d : Addr) (n h : Int), vs = [.ref d, .int n, .int h] ∧ DiceAt H d ∧ 0 ≤ n ∧ n ≤ 300 ∧ 0 ≤ h ∧ h ≤ 100 ∧
  ∀ (p : Addr) (fs : List (Int × Int)) (H' : Hp), (∀ f ∈ fs, Side h f) → (fs.length : Int) ≤ n → cutF fs = fs → Mv d H H' → Dx (hide d H') (.ref p) (rowD fs) → Q (.ref p) H'
theorem log_small {t : Int} (h0 : 0 < t) (h : t ≤ 4000) : t.natAbs.log2 < 9000 := Nat.lt_of_le_of_lt (Nat.log2_le_self _) (by omega)
theorem hide_up {d p : Addr} {H : Hp} {o : HO} (n : p ≠ d) (h : H p = some o) : hide d H p = some o := by rw [hide_ne n]; exact h
section
variable {P : Program} {w : World} {K : PySem.W.Frag} {mg : Str → Option Value} {base : Heap}
theorem c_cut (T : Txt K mg) (D : DefAt K mg "_law_cut" s__law_cut ["_law_forms"]) : CalG P w K mg base 1 "_law_cut" ["_law_forms"] spCut := by
  refine calOk D sc__law_cut (fun xs H Q E h => ?_) (fun f cdv A out s H xs Q E hgd hr h => ?_)
  · obtain ⟨d, a, fs, xs, rfl, _⟩ := h
    rfl
  · obtain ⟨d, a, fs, xs, rfl, hd, na, ha, hx, hl, k⟩ := h
    have nd := sc__law_cut.nd
    refine ⟨_, (pss_cons (ps_set (i := 1) nd rfl (.inl rfl) (pe_callTy call_list_of (by rfl) T.list (by decide +kernel) (pa_cons (pv 0) pa_nil)))
      (pss_cons (ps_while PassesOwn.never (PW.pt (pw_and (pt_cmpR (op_neD hr.units) (pv 1) (pe_lst pa_nil) (nomark _)) (pw_and1 (pt_cmpR (op_eqD hr.units) (pe_ix ix_list (pv 1) (pe_un un_neg pe_int) (fun _ _ => rfl)) (pe_tup (pa_cons pe_int (pa_cons pe_int pa_nil))) (nomark _))))) (pss_one (ps_expr (pe_bm0 PySem.F.plainAttrs_list PySem.F.slot_list_pop PySem.F.type_list_pop mt_pop (pv 1)))))
      (pss_one (ps_ret (pe_callTy call_tuple_of (by rfl) T.tuple (by decide +kernel) (pa_cons (pv 1) pa_nil)))))), ?_⟩
    refine ⟨_, rfl, _, _, rfl, .inl (SqL.of ha), fun l nl => ?_⟩
    have nel := hd.ne nl
    refine ⟨fun m σ H' => ∃ gs zs, m = gs.length ∧ gs.length ≤ 1000 ∧ σ = [some (.ref a), some (.ref l)] ∧ H' l = some (.lst zs) ∧ Mv d H H' ∧ DxAll (hide d H) zs (gs.map formD) ∧ cutF gs = cutF fs, ?_, ?_⟩
    · have m1 : Mv d H (upd H l (.lst xs)) := (Mv.refl hd).new nl
      exact ⟨_, fs, xs, rfl, hl, rfl, upd_same, m1, hx, rfl⟩
    · rintro m σ H1 ⟨gs, zs, rfl, gl, rfl, hL, m1, hz, hc⟩
      refine ⟨_, rfl, (by show 0 ≤ sizeLine; decide), fun p np => ?_⟩
      have s1 : Same H1 (upd H1 p (.lst [])) := same_new np
      have m2 := m1.new (o := .lst []) np
      have hz2 := DxAll.grow m2.same hz
      refine ⟨.list (gs.map formD), .list [], .lst (SqL.of (s1 _ _ hL)) (DxAll.dp (DxAll.grow hide_le hz2) (forms_flat gs).2.2), .lst (SqL.of upd_same) .nil, shapedL gs, (by decide +kernel), ?_⟩
      rcases List.eq_nil_or_concat gs with z | ⟨gs0, g, z⟩
      · subst z
        refine ⟨false, rfl, ?_⟩
        -- return tuple(found)
        cases hz2
        refine ⟨_, rfl, l, _, rfl, .inl ⟨SqL.of (s1 _ _ hL), fun q nq => ?_⟩⟩
        refine k q _ (m2.new nq) ?_
        rw [← hc, cutF_nil]
        exact .tup (hide_up (m2.dice.ne nq) upd_same) .nil
      · rw [List.concat_eq_append] at z
        subst z
        refine ⟨true, congrArg V.bl (by rw [eqv_nil]; simp), ?_⟩
        obtain ⟨zs0, y, rfl⟩ : ∃ zs0 y, zs = zs0 ++ [y] := by
          rcases List.eq_nil_or_concat zs with z | ⟨i, y, z⟩
          · have := hz2.len
            rw [z] at this
            simp at this
          · exact ⟨i, y, by rw [z, List.concat_eq_append]⟩
        have hlen : zs0.length = gs0.length := by
          have := hz2.len
          simpa using this
        have hz0 : DxAll (hide d H) zs0 (gs0.map formD) := by
          have := DxAll.take zs0.length hz
          rw [List.take_left, List.map_append, hlen, ← List.length_map (f := formD), List.take_left] at this
          exact this
        obtain ⟨dy, e1, hy⟩ := hz2.get zs0.length y (by simp)
        have edy : dy = formD g := by
          rw [List.map_append, hlen, ← List.length_map (f := formD)] at e1
          simp at e1
          exact e1.symm
        subst edy
        have hL1 := s1 _ _ hL
        refine ⟨_, rfl, _, rfl, _, _, _, _, rfl, rfl, SqL.of hL1, atI_last zs0 y, (by show 2 ≤ sizeLine; decide), fun p2 np2 => ?_⟩
        have s2 := same_new (o := .tup [.int 0, .int 0]) np2
        have m3 := m2.new (o := .tup [.int 0, .int 0]) np2
        have g3 : Same (hide d (upd H1 p (.lst []))) (hide d (upd (upd H1 p (.lst [])) p2 (.tup [.int 0, .int 0]))) := ((Mv.refl m2.dice).new np2).same
        refine ⟨formD g, zeroD, ((Dx.grow hide_le hy).grow s2).dp (noDictF g), .tup (SqT.of upd_same) (.cons (.int 0) (.cons (.int 0) .nil)), shapedF g, (by decide +kernel), ?_⟩
        by_cases eg : g = (0, 0)
        · refine ⟨true, congrArg V.bl (by rw [formD_eqv, decide_eq_true eg]), ?_⟩
          refine ⟨_, fun _ _ n => n, ?_⟩
          refine ⟨_, rfl, .inl ⟨rfl, _, SqL.of (s2 _ _ hL1)⟩, l, _, y, rfl, rfl, s2 _ _ hL1, (by simp), ?_⟩
          have m4 := m3.set (o := .lst (zs0 ++ [y]).dropLast) nl nel
          refine ⟨gs0.length, (by simp), gs0, zs0, rfl, (by simp at gl; omega), rfl, ?_, m4, hz0, ?_⟩
          · rw [upd_same, List.dropLast_concat]
          · rw [← hc, eg, cutF_zero]
        · refine ⟨false, congrArg V.bl (by rw [formD_eqv, decide_eq_false eg]), ?_⟩
          refine ⟨_, rfl, l, _, rfl, .inl ⟨SqL.of (s2 _ _ hL1), fun q nq => ?_⟩⟩
          refine k q _ (m3.new nq) ?_
          rw [← hc, cutF_last _ eg]
          have g5 : Same (hide d (upd (upd H1 p (.lst [])) p2 (.tup [.int 0, .int 0]))) (hide d (upd (upd (upd H1 p (.lst [])) p2 (.tup [.int 0, .int 0])) q (.tup (zs0 ++ [y])))) := ((Mv.refl m3.dice).new nq).same
          exact .tup (hide_up (m3.dice.ne nq) upd_same) (DxAll.grow g5 (DxAll.grow g3 hz2))
end
/-- at the values xs stand the pairs fs -/
inductive FormsAt (H : Hp) : List V → List (Int × Int) → Prop
  | nil : FormsAt H [] []
  | cons {p : Addr} {f : Int × Int} {xs : List V} {fs : List (Int × Int)} : H p = some (.tup [.int f.1, .int f.2]) → FormsAt H xs fs → FormsAt H (.ref p :: xs) (f :: fs)
theorem FormsAt.keep {H H' : Hp} (s : ∀ p xs, H p = some (.tup xs) → H' p = some (.tup xs)) : ∀ {xs : List V} {fs : List (Int × Int)}, FormsAt H xs fs → FormsAt H' xs fs
  | _, _, .nil => .nil
  | _, _, .cons h r => .cons (s _ _ h) (FormsAt.keep s r)
theorem FormsAt.append {H : Hp} : ∀ {xs ys : List V} {fs gs : List (Int × Int)}, FormsAt H xs fs → FormsAt H ys gs → FormsAt H (xs ++ ys) (fs ++ gs)
  | _, _, _, _, .nil, h => h
  | _, _, _, _, .cons a b, h => .cons a (FormsAt.append b h)
theorem FormsAt.len {H : Hp} : ∀ {xs : List V} {fs : List (Int × Int)}, FormsAt H xs fs → xs.length = fs.length
  | _, _, .nil => rfl
  | _, _, .cons _ b => by rw [List.length_cons, List.length_cons, FormsAt.len b]
theorem FormsAt.get {H : Hp} : ∀ {xs : List V} {fs : List (Int × Int)}, FormsAt H xs fs → ∀ (i : Nat) (x : V), xs[i]? = some x → ∃ p f, x = .ref p ∧ fs[i]? = some f ∧ H p = some (.tup [.int f.1, .int f.2])
  | _, _, .nil, _, _, e => by cases e
  | _, _, .cons a b, 0, x, e => by
    cases e
    exact ⟨_, _, rfl, rfl, a⟩
  | _, _, .cons a b, i + 1, x, e => FormsAt.get b i x e
theorem FormsAt.dx {H : Hp} {d : Addr} (hd : DiceAt H d) : ∀ {xs : List V} {fs : List (Int × Int)}, FormsAt H xs fs → DxAll (hide d H) xs (fs.map formD)
  | _, _, .nil => .nil
  | _, _, .cons a b => .cons (.tup (hide_up (fun e => by
      obtain ⟨l, s, c, q⟩ := hd
      rw [e, q] at a
      cases a) a) (.cons (.int _) (.cons (.int _) .nil))) (FormsAt.dx hd b)
theorem FormsAt.of {H : Hp} : ∀ {xs : List V} (fs : List (Int × Int)), DxAll H xs (fs.map formD) → FormsAt H xs fs
  | xs, [], h => by
    cases h
    exact .nil
  | xs, f :: fs, h => by
    cases h with
    | cons a b =>
      cases a with
      | tup h1 h2 =>
        cases h2 with
        | cons y1 r =>
          cases r with
          | cons y2 r =>
            cases r
            cases y1
            cases y2
            exact .cons h1 (FormsAt.of fs b)
theorem Dx.form {H : Hp} {p : Addr} {f : Int × Int} (h : Dx H (.ref p) (formD f)) : H p = some (.tup [.int f.1, .int f.2]) := by
  cases h with
  | tup h1 h2 =>
    cases h2 with
    | cons y1 r =>
      cases r with
      | cons y2 r =>
        cases r
        cases y1
        cases y2
        exact h1
theorem Mv.tups {d : Addr} {H H' : Hp} (hd : DiceAt H d) (m : Mv d H H') (p : Addr) (xs : List V) (h : H p = some (.tup xs)) : H' p = some (.tup xs) := by
  refine m.get (fun e => ?_) h
  obtain ⟨l, s, c, q⟩ := hd
  rw [e, q] at h
  cases h
theorem tups_put {H : Hp} {l : Addr} {zs : List V} {o : HO} (hl : H l = some (.lst zs)) (p : Addr) (xs : List V) (h : H p = some (.tup xs)) : upd H l o p = some (.tup xs) := by
  rw [upd_ne (fun e => by rw [e, hl] at h; cases h)]
  exact h
theorem hide_le' {d p : Addr} {H : Hp} {o : HO} (h : hide d H p = some o) : H p = some o := hide_le _ _ h
section
variable {P : Program} {w : World} {K : PySem.W.Frag} {mg : Str → Option Value} {base : Heap}
theorem c_some_form (T : Txt K mg) (C__law_roll : CalG P w K mg base 1 "_law_roll" ["_law_dice_here", "_law_total"] spRoll) (D : DefAt K mg "_law_some_form" s__law_some_form ["_law_dice_here", "_law_high"]) :
    CalG P w K mg base 2 "_law_some_form" ["_law_dice_here", "_law_high"] spSomeForm := by
  refine calOk D sc__law_some_form (fun xs H Q E h => ?_) (fun f cdv A out s H xs Q E hgd hr h => ?_)
  · obtain ⟨d, h, rfl, _⟩ := h
    rfl
  · obtain ⟨d, n, rfl, hd, h0, h1, k⟩ := h
    have nd := sc__law_some_form.nd
    refine ⟨_, (pss_one (ps_ret (pe_tup (pa_cons (pe_k C__law_roll hgd hr (by decide) rfl (pa_cons (pv 0) (pa_cons (pe_op op_add (pv 1) pe_int) pa_nil))) (pa_cons (pe_k C__law_roll hgd hr (by decide) rfl (pa_cons (pv 0) (pa_cons (pe_op op_add (pv 1) pe_int) pa_nil))) pa_nil))))), ?_⟩
    have l1 : (n + 1).natAbs.log2 < 9000 := log_small (by omega) (by omega)
    refine ⟨_, rfl, _, rfl, _, _, rfl, rfl, d, _, rfl, hd, (by omega), l1, fun r1 H1 a1 b1 m1 f1 => ?_⟩
    refine ⟨_, rfl, _, rfl, _, _, rfl, rfl, d, _, rfl, m1.dice, (by omega), l1, fun r2 H2 a2 b2 m2 f2 => ?_⟩
    refine ⟨(by show 2 ≤ sizeLine; decide), fun p np => ?_⟩
    exact k p (r1, r2) _ ⟨a1, by omega, a2, by omega⟩ ((m1.trans m2).new np) (.tup (hide_up (m2.dice.ne np) upd_same) (.cons (.int _) (.cons (.int _) .nil)))
theorem c_some_row (T : Txt K mg) (C__law_roll : CalG P w K mg base 1 "_law_roll" ["_law_dice_here", "_law_total"] spRoll) (C__law_some_form : CalG P w K mg base 2 "_law_some_form" ["_law_dice_here", "_law_high"] spSomeForm)
    (C__law_cut : CalG P w K mg base 1 "_law_cut" ["_law_forms"] spCut) (D : DefAt K mg "_law_some_row" s__law_some_row ["_law_dice_here", "_law_levels", "_law_high"]) :
    CalG P w K mg base 3 "_law_some_row" ["_law_dice_here", "_law_levels", "_law_high"] spSomeRow := by
  refine calOk D sc__law_some_row (fun xs H Q E h => ?_) (fun f cdv A out s H xs Q E hgd hr h => ?_)
  · obtain ⟨d, n, h, rfl, _⟩ := h
    rfl
  · obtain ⟨d, n, h, rfl, hd, n0, n1, h0, h1, k⟩ := h
    have nd := sc__law_some_row.nd
    refine ⟨_, (pss_cons (ps_setLc (i := 3) (own := [("_law_turn", 4)]) (g := gName 4) (by rfl) nd rfl rfl (sw_true rfl rfl rfl (by decide +kernel)) (pi_range1 rfl T.range (pa_cons (pe_k C__law_roll hgd hr (by decide) rfl (pa_cons (pv 0) (pa_cons (pe_op op_add (pv 1) pe_int) pa_nil))) pa_nil)) (blkOk_by (own := [("_law_turn", 4)]) (N := N__law_some_row) (sc := defScope s__law_some_row) (by decide +kernel)) (fun _ _ _ _ _ => pg_name (i := 4) nd rfl (.inl rfl)) (fun _ _ _ _ _ => pts_nil) (fun _ _ _ _ _ => pe_k C__law_some_form hgd hr (by decide) rfl (pa_cons (pv 0) (pa_cons (pv 2) pa_nil))))
      (pss_cons (ps_setLc (i := 3) (own := [("_law_form", 5)]) (g := gName 5) (by rfl) nd rfl rfl (sw_true rfl rfl rfl (by decide +kernel)) (pi_list (pv 3)) (blkOk_by (own := [("_law_form", 5)]) (N := N__law_some_row) (sc := defScope s__law_some_row) (by decide +kernel)) (fun _ _ _ _ _ => pg_name (i := 5) nd rfl (.inl rfl)) (fun _ _ _ _ _ => pts_nil) (fun _ _ _ _ _ => pe_ifExp (pt_cmpR op_gt (pe_k C__law_roll hgd hr (by decide) rfl (pa_cons (pv 0) (pa_cons pe_int pa_nil))) pe_int (nomark _)) (pv 5) (pe_tup (pa_cons pe_int (pa_cons pe_int pa_nil)))))
      (pss_one (ps_ret (pe_k C__law_cut hgd hr (by decide) rfl (pa_cons (pv 3) pa_nil)))))), ?_⟩
    have l1 : (n + 1).natAbs.log2 < 9000 := log_small (by omega) (by omega)
    refine a_set (fun v H' => ∃ l xs fs, v = .ref l ∧ l ≠ d ∧ Mv d H H' ∧ H' l = some (.lst xs) ∧ FormsAt H' xs fs ∧ (fs.length : Int) ≤ n ∧ ∀ f ∈ fs, Side h f) (fun Q' kQ => ?_) ?_
    · refine ⟨_, rfl, _, rfl, _, _, rfl, rfl, d, _, rfl, hd, (by omega), l1, fun r1 H1 a1 b1 m1 f1 => ?_⟩
      refine ⟨_, rfl, (by omega), (by omega), fun Dl nD => ?_⟩
      have neD := m1.dice.ne nD
      refine lc_range (fun i H' => ∃ xs fs, Mv d H H' ∧ H' Dl = some (.lst xs) ∧ FormsAt H' xs fs ∧ fs.length = i ∧ ∀ f ∈ fs, Side h f) ?_ ?_ ?_
      · exact ⟨[], [], m1.new nD, upd_same, .nil, rfl, fun _ z => nomatch z⟩
      · rintro i H2 hi ⟨xs, fs, m2, hD, hF, hl, hs⟩
        refine ⟨rfl, ?_⟩
        refine ⟨_, rfl, _, rfl, d, h, rfl, m2.dice, h0, h1, fun p f H3 sf m3 hp => ?_⟩
        have hD3 := m3.get neD hD
        have hF3 := hF.keep (m3.tups m2.dice)
        refine ⟨xs, hD3, ?_, xs ++ [.ref p], fs ++ [f], (m2.trans m3).set (m1.free nD) neD, upd_same, ?_, ?_, ?_⟩
        · rw [hF3.len]
          exact small1000 (by omega)
        · exact (hF3.append (.cons (hide_le' hp.form) .nil)).keep (tups_put hD3)
        · rw [List.length_append, hl]
          rfl
        · intro g hg
          rcases List.mem_append.mp hg with q | q
          · exact hs g q
          · rw [List.mem_singleton.mp q]
            exact sf
      · rintro H2 ⟨xs, fs, m2, hD, hF, hl, hs⟩
        exact kQ _ _ ⟨Dl, xs, fs, rfl, neD, m2, hD, hF, by omega, hs⟩
    rintro _ H1 ⟨l, xs, fs, rfl, nel, m1, hL, hF, hn, hs⟩
    refine a_set (fun v H' => ∃ l xs fs, v = .ref l ∧ l ≠ d ∧ Mv d H H' ∧ H' l = some (.lst xs) ∧ FormsAt H' xs fs ∧ (fs.length : Int) ≤ n ∧ ∀ f ∈ fs, Side h f) (fun Q' kQ => ?_) ?_
    · refine ⟨_, rfl, l, rfl, ⟨_, SqL.of hL⟩, fun Dl nD => ?_⟩
      have neD := m1.dice.ne nD
      have neL : l ≠ Dl := ne_of_none hL nD
      have l5 : Nat.log2 5 < 9000 := by decide +kernel
      refine lc_list (K := K) (a := l) (xs := xs) (fun i H' => ∃ ys gs, Mv d H H' ∧ H' l = some (.lst xs) ∧ FormsAt H' xs fs ∧ H' Dl = some (.lst ys) ∧ FormsAt H' ys gs ∧ gs.length = i ∧ ∀ f ∈ gs, Side h f) ?_ ?_ ?_ ?_
      · refine ⟨[], [], m1.new nD, by rw [upd_ne neL]; exact hL, hF.keep fun p zs q => same_new nD _ _ q, upd_same, .nil, rfl, fun _ z => nomatch z⟩
      · rintro i H' _ ⟨ys, gs, _, hL', _⟩
        exact SqL.of hL'
      · rintro i x H2 hi ⟨ys, gs, m2, hL2, hF2, hD, hG, hl, hs2⟩
        obtain ⟨p, g, rfl, hg, hp⟩ := hF2.get i x hi
        have sg : Side h g := hs g (List.mem_of_getElem? hg)
        have lys : ys.length < sizeLine := by
          rw [hG.len, hl]
          have : i < xs.length := (List.getElem?_eq_some_iff.mp hi).1
          rw [hF.len] at this
          exact small1000 (by omega)
        refine ⟨rfl, ?_⟩
        refine ⟨_, rfl, d, 5, rfl, m2.dice, (by decide), l5, fun r3 H3 a3 b3 m3 f3 => ?_⟩
        have hD3 := m3.get neD hD
        have hL3 := m3.get nel hL2
        have hF3 := hF2.keep (m3.tups m2.dice)
        have hG3 := hG.keep (m3.tups m2.dice)
        refine ⟨_, _, rfl, rfl, _, rfl, ite2 (fun q => ?_) (fun q => ?_)⟩
        · have hp3 := m3.tups m2.dice _ _ hp
          refine ⟨_, rfl, ys, hD3, lys, ys ++ [.ref p], gs ++ [g], (m2.trans m3).set (m1.free nD) neD, by rw [upd_ne neL]; exact hL3, hF3.keep (tups_put hD3), upd_same, ?_, ?_, ?_⟩
          · exact (hG3.append (.cons hp3 .nil)).keep (tups_put hD3)
          · rw [List.length_append, hl]
            rfl
          · intro g' hg'
            rcases List.mem_append.mp hg' with z | z
            · exact hs2 g' z
            · rw [List.mem_singleton.mp z]
              exact sg
        · refine ⟨(by show 2 ≤ sizeLine; decide), fun p2 np2 => ?_⟩
          have s4 := same_new (o := .tup [.int 0, .int 0]) np2
          have hD4 := s4 _ _ hD3
          refine ⟨ys, hD4, lys, ys ++ [.ref p2], gs ++ [(0, 0)], ((m2.trans m3).new np2).set (m1.free nD) neD, by rw [upd_ne neL]; exact s4 _ _ hL3, (hF3.keep fun p zs q => s4 _ _ q).keep (tups_put hD4), upd_same, ?_, ?_, ?_⟩
          · exact ((hG3.keep fun p zs q => s4 _ _ q).append (.cons (f := (0, 0)) upd_same .nil)).keep (tups_put hD4)
          · rw [List.length_append, hl]
            rfl
          · intro g' hg'
            rcases List.mem_append.mp hg' with z | z
            · exact hs2 g' z
            · rw [List.mem_singleton.mp z]
              exact ⟨Int.le_refl _, h0, Int.le_refl _, h0⟩
      · rintro H2 ⟨ys, gs, m2, hL2, hF2, hD, hG, hl, hs2⟩
        exact kQ _ _ ⟨Dl, ys, gs, rfl, neD, m2, hD, hG, by rw [hl, hF.len]; exact hn, hs2⟩
    rintro _ H2 ⟨l2, ys, gs, rfl, ne2, m2, hL2, hG, hn2, hs2⟩
    refine ⟨_, rfl, d, l2, gs, ys, rfl, m2.dice, ne2, hL2, hG.dx m2.dice, (by omega), fun p H3 m3 hp => ?_⟩
    have sub := cutF_sub gs
    exact k p (cutF gs) H3 (fun f hf => hs2 f (sub.2 f hf)) (by have := sub.1; omega) (cutF_cut gs) (m2.trans m3) hp
end
def sideL (k : Int) (fs : List (Int × Int)) : Int := fs.foldr (fun f a => a * k + f.1) 0
def sideR (k : Int) (fs : List (Int × Int)) : Int := fs.foldr (fun f a => a * k + f.2) 0
theorem FormsAt.reverse {H : Hp} : ∀ {xs : List V} {fs : List (Int × Int)}, FormsAt H xs fs → FormsAt H xs.reverse fs.reverse
  | _, _, .nil => .nil
  | _, _, .cons a b => by
    rw [List.reverse_cons, List.reverse_cons]
    exact (FormsAt.reverse b).append (.cons a .nil)
theorem Dx.rowOf {H : Hp} {x : V} {fs : List (Int × Int)} (h : Dx H x (rowD fs)) : ∃ a xs, x = .ref a ∧ H a = some (.tup xs) ∧ FormsAt H xs fs := by
  obtain ⟨a, xs, e, h1, h2⟩ := h.tupOf
  exact ⟨a, xs, e, h1, FormsAt.of fs h2⟩
/-! ## sums over rows -/
theorem sideL_snoc (k : Int) (f : Int × Int) : ∀ xs : List (Int × Int), sideL k (xs ++ [f]) = sideL k xs + k ^ xs.length * f.1
  | [] => by simp [sideL]
  | x :: r => by
    have ih := sideL_snoc k f r
    simp only [sideL, List.cons_append, List.foldr_cons, List.length_cons] at ih ⊢
    rw [ih, Int.add_mul, Int.pow_succ, Int.mul_assoc, Int.mul_comm f.1 k, ← Int.mul_assoc]
    omega
theorem sideR_snoc (k : Int) (f : Int × Int) : ∀ xs : List (Int × Int), sideR k (xs ++ [f]) = sideR k xs + k ^ xs.length * f.2
  | [] => by simp [sideR]
  | x :: r => by
    have ih := sideR_snoc k f r
    simp only [sideR, List.cons_append, List.foldr_cons, List.length_cons] at ih ⊢
    rw [ih, Int.add_mul, Int.pow_succ, Int.mul_assoc, Int.mul_comm f.2 k, ← Int.mul_assoc]
    omega
theorem side_bound {k : Int} (hk : k = 2 ∨ k = 3) : ∀ {fs : List (Int × Int)}, (∀ f ∈ fs, Side 7 f) → 0 ≤ sideL k fs ∧ sideL k fs + 7 ≤ 7 * 4 ^ fs.length ∧ 0 ≤ sideR k fs ∧ sideR k fs + 7 ≤ 7 * 4 ^ fs.length
  | [], _ => by simp [sideL, sideR]
  | f :: r, h => by
    obtain ⟨a1, a2, a3, a4⟩ := side_bound hk (fs := r) fun g hg => h g (List.mem_cons_of_mem _ hg)
    obtain ⟨b1, b2, b3, b4⟩ := h f List.mem_cons_self
    simp only [sideL, sideR, List.foldr_cons, List.length_cons] at a1 a2 a3 a4 ⊢
    have e : (4 : Int) ^ (r.length + 1) = 4 ^ r.length * 4 := Int.pow_succ ..
    rw [e]
    rcases hk with rfl | rfl <;> omega
theorem side3 {fs : List (Int × Int)} (h : ∀ f ∈ fs, Side 3 f) : ∀ f ∈ fs, Side 7 f := fun f hf => by
  obtain ⟨a, b, c, d⟩ := h f hf
  exact ⟨a, by omega, c, by omega⟩
theorem last_ne {i : List (Int × Int)} {y : Int × Int} (h : cutF (i ++ [y]) = i ++ [y]) : y ≠ (0, 0) := fun e => by
  rw [e, cutF_zero] at h
  have := (cutF_sub i).1
  rw [h, List.length_append, List.length_singleton] at this
  omega
/-! ## rows as values at places -/
theorem go_nm {t : TS} {D : Ends} {i : Nat} {v : V} {σ : L2.St} {H : Hp} {r : VK} {b c : L2.St → Hp → Prop} (h : t D (σ.set i (some v)) H) : gName i v σ H (Ends.nx ⟨t D, r, b, c⟩) := h

theorem vcut_take (xs : List V) (n : Nat) (h : n ≤ xs.length) : cutV xs none (some (n : Int)) = xs.take n := by
  unfold cutV HT.sIx
  show (xs.drop 0).take _ = _
  rw [List.drop_zero]
  congr 1
  simp only [Int.natCast_nonneg]
  split <;> omega
theorem cut_take (ds : List PyData) (n : Nat) (h : n ≤ ds.length) : cutD ds none (some (n : Int)) = ds.take n := by
  unfold cutD
  rw [HT.sIx_none, HT.sIx_nat, Nat.min_eq_left h, List.drop_zero, Nat.sub_zero]
theorem cut_drop (ds : List PyData) (n : Nat) (h : n ≤ ds.length) : cutD ds (some (n : Int)) none = ds.drop n := by
  unfold cutD
  rw [HT.sIx_none, HT.sIx_nat, Nat.min_eq_left h]
  exact List.take_of_length_le (by rw [List.length_drop]; omega)
theorem FormsAt.dx0 {H : Hp} : ∀ {xs : List V} {fs : List (Int × Int)}, FormsAt H xs fs → DxAll H xs (fs.map formD)
  | _, _, .nil => .nil
  | _, _, .cons a b => .cons (.tup a (.cons (.int _) (.cons (.int _) .nil))) (FormsAt.dx0 b)
def RowAt (H : Hp) (v : V) (fs : List (Int × Int)) : Prop := ∃ a xs, v = .ref a ∧ H a = some (.tup xs) ∧ FormsAt H xs fs
theorem RowAt.keep {H H' : Hp} {v : V} {fs : List (Int × Int)} (s : ∀ p xs, H p = some (.tup xs) → H' p = some (.tup xs)) (h : RowAt H v fs) : RowAt H' v fs := by
  obtain ⟨a, xs, e, h1, h2⟩ := h
  exact ⟨a, xs, e, s _ _ h1, h2.keep s⟩
theorem RowAt.grow {H H' : Hp} {v : V} {fs : List (Int × Int)} (h : RowAt H v fs) (s : Same H H') : RowAt H' v fs := h.keep fun p xs z => s _ _ z
theorem RowAt.mv {d : Addr} {H H' : Hp} {v : V} {fs : List (Int × Int)} (h : RowAt H v fs) (hd : DiceAt H d) (m : Mv d H H') : RowAt H' v fs := h.keep (m.tups hd)
theorem RowAt.dx0 {H : Hp} {v : V} {fs : List (Int × Int)} (h : RowAt H v fs) : Dx H v (rowD fs) := by
  obtain ⟨a, xs, rfl, h1, h2⟩ := h
  exact .tup h1 h2.dx0
theorem DiceAt.neT {H : Hp} {d p : Addr} {xs : List V} (hd : DiceAt H d) (h : H p = some (.tup xs)) : p ≠ d := fun e => by
  obtain ⟨l, s, c, q⟩ := hd
  rw [e, q] at h
  cases h
theorem RowAt.dx {d : Addr} {H : Hp} {v : V} {fs : List (Int × Int)} (h : RowAt H v fs) (hd : DiceAt H d) : Dx (hide d H) v (rowD fs) := by
  obtain ⟨a, xs, rfl, h1, h2⟩ := h
  exact .tup (hide_up (hd.neT h1) h1) (h2.dx hd)
theorem RowAt.of {d : Addr} {H : Hp} {v : V} {fs : List (Int × Int)} (h : Dx (hide d H) v (rowD fs)) : RowAt H v fs := h.seen.rowOf
theorem formsB_of {fs : List (Int × Int)} (h : ∀ f ∈ fs, Side 7 f) (hl : fs.length ≤ 200) : formsB (rowD fs) = true := by
  simp only [rowD, formsB]
  rw [List.length_map, decide_eq_true hl, Bool.true_and, List.all_eq_true]
  intro d hd
  obtain ⟨f, hf, rfl⟩ := List.mem_map.mp hd
  exact formB_D (h f hf)
theorem FormsAt.take {H : Hp} : ∀ {xs : List V} {fs : List (Int × Int)} (n : Nat), FormsAt H xs fs → FormsAt H (xs.take n) (fs.take n)
  | _, _, 0, _ => .nil
  | _, _, _ + 1, .nil => .nil
  | _, _, n + 1, .cons a b => .cons a (FormsAt.take n b)
theorem take_one {α : Type} {fs : List α} {i : Nat} {f : α} (h : fs[i]? = some f) : fs.take (i + 1) = fs.take i ++ [f] := by rw [List.take_add_one, h]; rfl
theorem form_of {d : PyData} (h : formB d = true) : ∃ f : Int × Int, d = formD f ∧ Side 7 f := by
  unfold formB at h
  split at h
  · rename_i a b
    rw [Bool.and_eq_true] at h
    obtain ⟨h1, h2⟩ := h
    cases a with
    | int i =>
      cases b with
      | int j =>
        unfold sideB at h1 h2
        simp only [Bool.and_eq_true, decide_eq_true_eq] at h1 h2
        exact ⟨(i, j), rfl, h1.1, h1.2, h2.1, h2.2⟩
      | _ => exact Bool.noConfusion h2
    | _ => exact Bool.noConfusion h1
  · cases h
theorem forms_of : ∀ ds : List PyData, ds.all formB = true → ∃ fs : List (Int × Int), ds = fs.map formD ∧ ∀ f ∈ fs, Side 7 f
  | [], _ => ⟨[], rfl, fun _ z => nomatch z⟩
  | d :: r, h => by
    rw [List.all_cons, Bool.and_eq_true] at h
    obtain ⟨f, rfl, sf⟩ := form_of h.1
    obtain ⟨fs, rfl, sr⟩ := forms_of r h.2
    refine ⟨f :: fs, rfl, fun g hg => ?_⟩
    rcases List.mem_cons.mp hg with e | e
    · rw [e]
      exact sf
    · exact sr g e
theorem formsB_out {d : PyData} (h : formsB d = true) : ∃ fs : List (Int × Int), d = rowD fs ∧ fs.length ≤ 200 ∧ ∀ f ∈ fs, Side 7 f := by
  unfold formsB at h
  split at h
  · rename_i ds
    rw [Bool.and_eq_true, decide_eq_true_eq] at h
    obtain ⟨fs, rfl, sf⟩ := forms_of ds h.2
    exact ⟨fs, rfl, by simpa using h.1, sf⟩
  · cases h
theorem rowB_out {d : PyData} (h : rowB d = true) : ∃ fs : List (Int × Int), d = rowD fs ∧ fs.length ≤ 200 ∧ (∀ f ∈ fs, Side 7 f) ∧ cutF fs = fs := by
  have hf : formsB d = true := by
    unfold rowB at h
    split at h
    · rw [Bool.and_eq_true] at h
      exact h.1
    · cases h
  obtain ⟨fs, rfl, hl, hs⟩ := formsB_out hf
  refine ⟨fs, rfl, hl, hs, ?_⟩
  rcases List.eq_nil_or_concat fs with e | ⟨i, y, e⟩
  · rw [e]
    rfl
  · rw [List.concat_eq_append] at e
    subst e
    refine cutF_last i fun z => ?_
    subst z
    simp only [rowD, rowB, Bool.and_eq_true] at h
    have q := h.2
    rw [show (List.map formD (i ++ [((0 : Int), (0 : Int))])).getLastD .none = formD (0, 0) by simp, formD_eqv] at q
    simp at q

end G

set_option Elab.async false
set_option linter.all false
set_option maxRecDepth 100000
set_option maxHeartbeats 4000000
namespace G
open PySem PySem.Spec PyProof.Rows L2
/-! ## the text of a whole number, as the program and as the law read it -/
open TL in
theorem pre_figs (z : Str) : tl (Txt.removeprefix z "-") = figs (tl z) := by
  have h1 : Str.length ("-" : Str) = 1 := by decide +kernel
  have hz := len_tl z
  rw [PySem.StrLaws.removeprefix_eq, h1]
  unfold figs negB
  have hs : PySem.Builtin.Str.subAt z "-" 0 = decide ((tl z).head? = some 45) := by
    have ez : z = ⟨(tl z).toArray⟩ := (mk_tl z).symm
    generalize tl z = l at ez
    subst ez
    show (Array.extract l.toArray 0 (0 + Str.length ("-" : Str)) == ("-" : Str).cps) = _
    rw [h1, show ("-" : Str).cps = #[45] by decide +kernel]
    cases l with
    | nil => rfl
    | cons c r =>
      rw [show Array.extract (c :: r).toArray 0 (0 + 1) = #[c] by simp]
      by_cases q : c = 45
      · subst q
        rfl
      · rw [decide_eq_false (by simpa using q)]
        simpa using q
  rw [hs]
  by_cases q : (tl z).head? = some 45
  · obtain ⟨r, hr⟩ : ∃ r, tl z = 45 :: r := by
      cases e : tl z with
      | nil => rw [e] at q; cases q
      | cons c r =>
        rw [e] at q
        injection q with q
        exact ⟨r, by rw [q]⟩
    rw [decide_eq_true q, if_pos rfl, decide_eq_true (by rw [hz, hr, List.length_cons]; omega), Bool.and_self, if_pos rfl]
    show ((tl z).drop 1).take (z.length - 1) = (tl z).tail
    rw [hr, List.drop_one, List.tail_cons, List.take_of_length_le (by rw [hz, hr, List.length_cons]; omega)]
  · rw [decide_eq_false q, Bool.and_false, if_neg Bool.false_ne_true, if_neg Bool.false_ne_true]
open TL in
theorem fig_prog (f : Str) : (Txt.isascii f && (Txt.isdigit f && decide (f.length ≤ 60))) = figOk (tl f) := by
  have facts : ∀ c < 128, Unicode.isDigit c = digB c := by decide +kernel
  have a1 : Txt.isascii f = (tl f).all fun c => decide (c < 128) := by
    unfold Txt.isascii tl
    rw [Array.all_toList]
  have a2 : Txt.isdigit f = (decide (f.length > 0) && (tl f).all Unicode.isDigit) := by
    unfold Txt.isdigit tl
    rw [Array.all_toList]
  have key : ∀ l : List Nat, ((l.all fun c => decide (c < 128)) && l.all Unicode.isDigit) = l.all digB := by
    intro l
    induction l with
    | nil => rfl
    | cons c r ih =>
      rw [List.all_cons, List.all_cons, List.all_cons, ← ih]
      by_cases h : c < 128
      · rw [decide_eq_true h, facts c h]
        cases digB c <;> cases (r.all fun c => decide (c < 128)) <;> cases r.all Unicode.isDigit <;> rfl
      · have : digB c = false := by
          unfold digB
          rw [decide_eq_false (show ¬ c ≤ 57 by omega), Bool.and_false]
        rw [decide_eq_false h, this]
        cases (r.all fun c => decide (c < 128)) <;> cases r.all Unicode.isDigit <;> cases Unicode.isDigit c <;> rfl
  rw [a1, a2, len_tl]
  unfold figOk
  rw [← key]
  have e : decide ((tl f).length > 0) = !(tl f).isEmpty := by
    cases tl f <;> rfl
  rw [e]
  cases (tl f).isEmpty <;> cases ((tl f).all fun c => decide (c < 128)) <;> cases (tl f).all Unicode.isDigit <;> rfl
open TL in
theorem one_sign {c d : Nat} : ((⟨#[c]⟩ : Str) = ⟨#[d]⟩) ↔ c = d := by
  constructor
  · intro e
    have := congrArg tl e
    simpa [tl] using this
  · rintro rfl
    rfl
theorem zero_S : ("0" : Str) = ⟨#[48]⟩ := by decide +kernel
open TL in
/-- figures that begin with 0: only "0" is one -/
theorem lead_one {z : Str} {c : Nat} {r : List Nat} (h1 : figOk (figs (tl z)) = true) (hc : figs (tl z) = c :: r) (h2 : (⟨#[c]⟩ : Str) = "0") : (!decide (V.str z = V.str "0")) = !numOkL (tl z) := by
  rw [zero_S, one_sign] at h2
  subst h2
  have e : (figs (tl z)).head? = some 48 := by rw [hc] <;> rfl
  unfold numOkL
  rw [h1, Bool.true_and, decide_eq_false (p := (figs (tl z)).head? ≠ some 48) (by simpa using e), Bool.false_or]
  congr 1
  by_cases q : z = "0"
  · subst q
    decide +kernel
  · rw [decide_eq_false (fun t => q (by injection t))]
    by_cases n : negB (tl z) = true
    · rw [n, Bool.not_true, Bool.and_false]
    · have ez : figs (tl z) = tl z := if_neg n
      rw [decide_eq_false, Bool.false_and]
      intro l1
      rw [hc] at l1
      have : r = [] := List.length_eq_zero_iff.mp (by simpa using l1)
      subst this
      refine q (ext_tl ?_)
      rw [← ez, hc]
      decide +kernel
open TL in
theorem lead_ok {z : Str} {c : Nat} {r : List Nat} (h1 : figOk (figs (tl z)) = true) (hc : figs (tl z) = c :: r) (h2 : ¬ (⟨#[c]⟩ : Str) = "0") : false = !numOkL (tl z) := by
  rw [zero_S, one_sign] at h2
  have e : (figs (tl z)).head? ≠ some 48 := by
    rw [hc]
    simpa using h2
  unfold numOkL
  rw [h1, Bool.true_and, decide_eq_true e] <;> rfl
def ovI : Option Int → V
  | none => .non
  | some n => .int n
def spWhole : Sp := fun vs H Q _ => ∃ z : Str, vs = [.str z] ∧ z.length ≤ 16000000 ∧ Q (ovI (wholeZ z)) H
section
variable {gq : Bool} {P : Program} {w : World} {K : PySem.W.Frag} {mg : Str → Option Value} {base : Heap}
open TL in
theorem c_integer_of (T : Txt K mg) (D : DefAt K mg "integer_of" s_integer_of ["text"]) : CalQ gq P w K mg base 1 "integer_of" ["text"] spWhole := by
  refine calOkQ D sc_integer_of (fun xs H Q E h => ?_) (fun f cdv A out s H xs Q E hgd hr h => ?_)
  · obtain ⟨z, rfl, _⟩ := h
    rfl
  · obtain ⟨z, rfl, hz, k⟩ := h
    have nd := sc_integer_of.nd
    refine ⟨_, (pss_cons (ps_set (i := 1) nd rfl (.inl rfl) (pe_bm PySem.F.plainAttrs_str PySem.F.slot_str_removeprefix PySem.F.type_str_removeprefix mt_removeprefix (pv 0) (pa_cons pe_str pa_nil)))
      (pss_cons (ps_if (PW.pt (pw_or (pt_not (pt_val (pe_bm0 PySem.F.plainAttrs_str PySem.F.slot_str_isascii PySem.F.type_str_isascii mt_isascii (pv 1)))) (pw_or (pt_not (pt_val (pe_bm0 PySem.F.plainAttrs_str PySem.F.slot_str_isdigit PySem.F.type_str_isdigit mt_isdigit (pv 1)))) (pw_or1 (pt_cmpR op_gt (pe_callB call_len_str (by rfl) T.len (by decide +kernel) (pa_cons (pv 1) pa_nil)) (pe_gv rfl T.gMAX_FIGURES) (nomark _)))))) (pss_one (ps_ret pe_non)) pss_nil)
      (pss_cons (ps_if (PW.pt (pw_and (pt_cmpR op_eq (pe_ix ix_str (pv 1) pe_int (fun _ _ => rfl)) pe_str (nomark _)) (pw_and1 (pt_cmpR op_ne (pv 0) pe_str (nomark _))))) (pss_one (ps_ret pe_non)) pss_nil)
      (pss_one (ps_ret (pe_callTy call_int_str (by rfl) T.int (by decide +kernel) (pa_cons (pv 0) pa_nil))))))), ?_⟩
    have zl : (Txt.removeprefix z "-").length ≤ z.length := by
      rw [len_tl, len_tl z, pre_figs]
      unfold figs
      split
      · rw [List.length_tail]
        omega
      · exact Nat.le_refl _
    have sz : sizeLine = 16777216 := sizeLine_eq
    have ef := fig_prog (Txt.removeprefix z "-")
    rw [pre_figs] at ef
    refine a_set (fun v H' => v = .str (Txt.removeprefix z "-") ∧ H = H') (fun Q' kQ => ⟨_, rfl, rfl, _, _, rfl, rfl, (by omega), kQ _ _ ⟨rfl, rfl⟩⟩) ?_
    rintro _ _ ⟨rfl, rfl⟩
    refine a_if (fun b H' => b = !figOk (figs (tl z)) ∧ H = H') (fun Q' kQ => ?_) ?_ ?_
    · refine ⟨_, rfl, rfl, _, rfl, rfl, True.intro, _, rfl, ite2 (fun h1 => kQ _ _ ⟨?_, rfl⟩) (fun h1 => ?_)⟩
      · rw [← ef]
        simp at h1
        simp [h1]
      · refine ⟨_, rfl, rfl, _, rfl, rfl, True.intro, _, rfl, ite2 (fun h2 => kQ _ _ ⟨?_, rfl⟩) (fun h2 => ?_)⟩
        · rw [← ef]
          simp at h2
          simp [h2]
        · refine ⟨_, rfl, _, rfl, (by omega), _, _, rfl, rfl, _, rfl, kQ _ _ ⟨?_, rfl⟩⟩
          rw [← ef]
          simp at h1 h2
          rw [h1, h2, Bool.true_and, Bool.true_and]
          by_cases q : (Txt.removeprefix z "-").length ≤ 60
          · rw [decide_eq_true q, decide_eq_false (by omega)] <;> rfl
          · rw [decide_eq_false q, decide_eq_true (by omega)] <;> rfl
    · rintro _ ⟨h1, rfl⟩
      have e : wholeZ z = none := if_neg (by unfold numOkL; rw [show figOk (figs (tl z)) = false by simpa using h1.symm, Bool.false_and]; exact Bool.false_ne_true)
      rw [e] at k
      exact k
    · rintro _ ⟨h1, rfl⟩
      have h1 : figOk (figs (tl z)) = true := by simpa using h1.symm
      obtain ⟨c, r, hc⟩ : ∃ c r, figs (tl z) = c :: r := by
        cases e : figs (tl z) with
        | nil => rw [e] at h1; exact absurd h1 (by decide)
        | cons c r => exact ⟨c, r, rfl⟩
      have hp : tl (Txt.removeprefix z "-") = c :: r := by rw [pre_figs, hc]
      have c0 : (Txt.removeprefix z "-").cps.toList[0]? = some c := by
        show (tl (Txt.removeprefix z "-"))[0]? = some c
        rw [hp] <;> rfl
      have l60 : (figs (tl z)).length ≤ 60 := by
        unfold figOk at h1
        simp at h1
        exact h1.2.2
      have zs : z.length ≤ 61 := by
        rw [len_tl]
        unfold figs at l60
        split at l60
        · rw [List.length_tail] at l60
          omega
        · omega
      refine go_nx ?_
      refine a_if (fun b H' => b = !numOkL (tl z) ∧ H = H') (fun Q' kQ => ?_) ?_ ?_
      · refine ⟨_, rfl, _, _, _, rfl, rfl, (by omega), atI_nat (j := 0) c0, rfl, _, rfl, ite2 (fun h2 => ?_) (fun h2 => ?_)⟩
        · refine ⟨_, rfl, rfl, _, rfl, kQ _ _ ⟨?_, rfl⟩⟩
          exact lead_one h1 hc (by simpa using h2)
        · exact kQ _ _ ⟨lead_ok h1 hc (by simpa using h2), rfl⟩
      · rintro _ ⟨h2, rfl⟩
        have e : wholeZ z = none := if_neg (by rw [show numOkL (tl z) = false by simpa using h2.symm]; exact Bool.false_ne_true)
        rw [e] at k
        exact k
      · rintro _ ⟨h2, rfl⟩
        have h2 : numOkL (tl z) = true := by simpa using h2.symm
        obtain ⟨n, hn, _⟩ := num_in h2
        have e : wholeZ z = some n := by
          unfold wholeZ
          rw [if_pos h2, hn]
        rw [e] at k
        exact ⟨_, rfl, _, _, rfl, hn, (by omega), k⟩
end
end G

set_option Elab.async false
set_option linter.all false
set_option maxRecDepth 100000
set_option maxHeartbeats 4000000
namespace G
open PySem PySem.Spec PyProof.Rows L2
open TL in
theorem cut1 (z : Str) : tl (cutS z none (some 1)) = (tl z).take 1 := by
  show ((z.cps.toList.drop (HT.sIx z.length 0 none)).take (HT.sIx z.length z.length (some ((1 : Nat) : Int)) - HT.sIx z.length 0 none)) = _
  rw [HT.sIx_nat, HT.sIx_none, List.drop_zero, Nat.sub_zero]
  show (tl z).take (min 1 z.length) = _
  rw [len_tl, List.take_eq_take_iff]
  omega
open TL in
theorem cut_from (z : Str) (k : Nat) : tl (cutS z (some (k : Int)) none) = (tl z).drop k := by
  show ((z.cps.toList.drop (HT.sIx z.length 0 (some (k : Int)))).take (HT.sIx z.length z.length none - HT.sIx z.length 0 (some (k : Int)))) = _
  rw [HT.sIx_nat, HT.sIx_none]
  show ((tl z).drop (min k z.length)).take (z.length - min k z.length) = _
  rw [len_tl]
  by_cases q : k ≤ (tl z).length
  · rw [Nat.min_eq_left q, List.take_of_length_le (by rw [List.length_drop]; omega)]
  · rw [Nat.min_eq_right (by omega), List.drop_of_length_le (Nat.le_refl _), List.take_nil, List.drop_of_length_le (by omega)]
open TL in
theorem minus_cut (z : Str) : decide (V.str (cutS z none (some 1)) = V.str "-") = negB (tl z) := by
  have e : tl ("-" : Str) = [45] := by decide +kernel
  unfold negB
  by_cases q : (tl z).head? = some 45
  · rw [decide_eq_true q]
    refine decide_eq_true (congrArg V.str (ext_tl ?_))
    rw [cut1, e]
    cases h : tl z with
    | nil => rw [h] at q; cases q
    | cons c r =>
      rw [h] at q
      injection q with q
      rw [q] <;> rfl
  · rw [decide_eq_false q]
    refine decide_eq_false fun t => q ?_
    injection t with t
    have := congrArg tl t
    rw [cut1, e] at this
    cases h : tl z with
    | nil => rw [h] at this; cases this
    | cons c r =>
      rw [h] at this
      injection this with this
      rw [this] <;> rfl
def figZ (z : Str) : Str := if negB (TL.tl z) = true then cutS z (some 1) none else z
open TL in
theorem figZ_tl (z : Str) : tl (figZ z) = figs (tl z) := by
  unfold figZ figs
  by_cases q : negB (tl z) = true
  · rw [if_pos q, if_pos q]
    exact (cut_from z 1).trans List.drop_one
  · rw [if_neg q, if_neg q]
open TL in
theorem empty_fig (z : Str) : decide (V.str (figZ z) = V.str "") = (figs (tl z)).isEmpty := by
  cases e : figs (tl z) with
  | nil => exact decide_eq_true (congrArg V.str (ext_tl (by rw [figZ_tl, e]; decide +kernel)))
  | cons c r =>
    refine decide_eq_false fun t => ?_
    injection t with t
    have := congrArg tl t
    rw [figZ_tl, e, show tl ("" : Str) = [] by decide +kernel] at this
    cases this
theorem digit_in (c : Nat) : (!decide (c ∈ ("0123456789" : Str).cps.toList)) = !digB c := by
  rw [show ("0123456789" : Str).cps.toList = [48, 49, 50, 51, 52, 53, 54, 55, 56, 57] by decide +kernel]
  congr 1
  unfold digB
  by_cases q : 48 ≤ c ∧ c ≤ 57
  · rw [decide_eq_true q.1, decide_eq_true q.2]
    refine decide_eq_true ?_
    simp
    omega
  · rw [← Bool.decide_and, decide_eq_false q]
    refine decide_eq_false ?_
    simp
    omega
theorem not_digs (l : List Nat) : (!((l.filter fun c => !digB c).map fun c => PyData.str ⟨#[c]⟩).isEmpty) = !l.all digB := by
  congr 1
  induction l with
  | nil => rfl
  | cons c r ih =>
    rw [List.all_cons, ← ih]
    cases h : digB c <;> simp [h]
open TL in
theorem lead_many {z : Str} {c : Nat} {r : List Nat} (h1 : figOk (figs (tl z)) = true) (hc : figs (tl z) = c :: r) (h2 : (⟨#[c]⟩ : Str) = "0") (h3 : 1 < (figs (tl z)).length) : true = !numOkL (tl z) := by
  rw [zero_S, one_sign] at h2
  subst h2
  unfold numOkL
  rw [h1, Bool.true_and, decide_eq_false (p := (figs (tl z)).head? ≠ some 48) (by rw [hc]; simp), Bool.false_or, decide_eq_false (by omega)] <;> rfl
open TL in
theorem lead_few {z : Str} {c : Nat} {r : List Nat} (h1 : figOk (figs (tl z)) = true) (hc : figs (tl z) = c :: r) (h2 : (⟨#[c]⟩ : Str) = "0") (h3 : (figs (tl z)).length ≤ 1) : negB (tl z) = !numOkL (tl z) := by
  rw [zero_S, one_sign] at h2
  subst h2
  unfold numOkL
  rw [h1, Bool.true_and, decide_eq_false (p := (figs (tl z)).head? ≠ some 48) (by rw [hc]; simp), Bool.false_or, decide_eq_true (p := (figs (tl z)).length = 1) (by have e : (figs (tl z)).length = r.length + 1 := (by rw [hc, List.length_cons]); omega), Bool.true_and, Bool.not_not]
theorem same_put {H H' : Hp} {D : Addr} {o : HO} (m : Same H H') (n : H D = none) : Same H (upd H' D o) := fun b u q => by
  have : b ≠ D := fun e => by
    rw [e, n] at q
    cases q
  rw [upd_ne this]
  exact m b u q
def spWholeL : Sp := fun vs H Q _ => ∃ z : Str, vs = [.str z] ∧ z.length ≤ 16000000 ∧ (∀ c ∈ TL.tl z, c < 128) ∧ ∀ H', Same H H' → Q (ovI (wholeZ z)) H'
section
variable {P : Program} {w : World} {K : PySem.W.Frag} {mg : Str → Option Value} {base : Heap}
open TL in
theorem c_whole (T : Txt K mg) (D : DefAt K mg "_law_whole" s__law_whole ["_law_text"]) : CalG P w K mg base 1 "_law_whole" ["_law_text"] spWholeL := by
  refine calOk D sc__law_whole (fun xs H Q E h => ?_) (fun f cdv A out s H xs Q E hgd hr h => ?_)
  · obtain ⟨z, rfl, _⟩ := h
    rfl
  · obtain ⟨z, rfl, hz, ha, k⟩ := h
    have nd := sc__law_whole.nd
    refine ⟨_, (pss_cons (ps_set (i := 1) nd rfl (.inl rfl) (pe_ifExp (pt_cmpR op_eq (pe_slice sl_str (pv 0) po_none (po_some pe_int)) pe_str (nomark _)) (pe_slice sl_str (pv 0) (po_some pe_int) po_none) (pv 0)))
      (pss_cons (ps_if (PW.pt (pw_or (pt_cmpR op_eq (pv 1) pe_str (nomark _)) (pw_or (pt_cmpR op_gt (pe_callB call_len_str (by rfl) T.len (by decide +kernel) (pa_cons (pv 1) pa_nil)) pe_int (nomark _)) (pw_or1 (pt_cmpR (op_neD hr.units) (pe_lc (own := [("_law_sign", 2)]) (g := gName 2) (by rfl) nd (pi_str (pv 1)) (blkOk_by (own := [("_law_sign", 2)]) (N := N__law_whole) (sc := defScope s__law_whole) (by decide +kernel)) (fun _ _ _ _ _ => pg_name (i := 2) nd rfl (.inl rfl)) (fun _ _ _ _ _ => pts_one (pt_cmpR op_notIn_sign (pv 2) pe_str rfl)) (fun _ _ _ _ _ => pv 2)) (pe_lst pa_nil) (nomark _)))))) (pss_one (ps_ret pe_non)) pss_nil)
      (pss_cons (ps_if (PW.pt (pw_and (pt_cmpR op_eq (pe_ix ix_str (pv 1) pe_int (fun _ _ => rfl)) pe_str (nomark _)) (pw_and1 (PW.pt (pw_or (pt_cmpR op_gt (pe_callB call_len_str (by rfl) T.len (by decide +kernel) (pa_cons (pv 1) pa_nil)) pe_int (nomark _)) (pw_or1 (pt_cmpR op_eq (pe_slice sl_str (pv 0) po_none (po_some pe_int)) pe_str (nomark _)))))))) (pss_one (ps_ret pe_non)) pss_nil)
      (pss_one (ps_ret (pe_callTy call_int_str (by rfl) T.int (by decide +kernel) (pa_cons (pv 0) pa_nil))))))), ?_⟩
    have sz : sizeLine = 16777216 := sizeLine_eq
    refine a_set (fun v H' => v = .str (figZ z) ∧ H = H') (fun Q' kQ => ?_) ?_
    · refine ⟨_, rfl, _, rfl, z, rfl, (by omega), rfl, _, congrArg V.bl (minus_cut z), ite2 (fun h1 => ?_) (fun h1 => ?_)⟩
      · refine ⟨_, rfl, _, rfl, z, rfl, (by omega), kQ _ _ ⟨congrArg V.str (if_pos h1).symm, rfl⟩⟩
      · exact ⟨_, rfl, kQ _ _ ⟨congrArg V.str (if_neg h1).symm, rfl⟩⟩
    rintro _ _ ⟨rfl, rfl⟩
    have ef := figZ_tl z
    have fl : (figZ z).length = (figs (tl z)).length := by rw [len_tl, ef]
    have fz : (figZ z).length ≤ z.length := by
      rw [fl, len_tl z]
      unfold figs
      split
      · rw [List.length_tail]
        omega
      · exact Nat.le_refl _
    have fa : ∀ c ∈ tl (figZ z), c < 128 := by
      rw [ef]
      intro c hc
      unfold figs at hc
      split at hc
      · exact ha c (List.mem_of_mem_tail hc)
      · exact ha c hc
    refine a_if (fun b H' => b = !figOk (figs (tl z)) ∧ Same H H') (fun Q' kQ => ?_) ?_ ?_
    · refine ⟨_, rfl, rfl, _, congrArg V.bl (empty_fig z), ite2 (fun h1 => kQ _ _ ⟨?_, Same.refl H⟩) (fun h1 => ?_)⟩
      · unfold figOk
        rw [h1] <;> rfl
      · refine ⟨_, rfl, _, rfl, (by omega), _, _, rfl, rfl, _, rfl, ite2 (fun h2 => kQ _ _ ⟨?_, Same.refl H⟩) (fun h2 => ?_)⟩
        · have := of_decide_eq_true h2
          unfold figOk
          rw [decide_eq_false (p := (figs (tl z)).length ≤ 60) (by omega), Bool.and_false, Bool.and_false] <;> rfl
        · have l60 : (figs (tl z)).length ≤ 60 := by
            have := of_decide_eq_false (Bool.eq_false_iff.mpr h2)
            omega
          refine ⟨_, rfl, _, rfl, fun Dl nD => ?_⟩
          refine lc_it walk_str (fun i H' => Same H H' ∧ H' Dl = some (.lst (((tl (figZ z)).take i).filter (fun c => !digB c) |>.map fun c => V.str ⟨#[c]⟩))) ?_ (fun _ _ _ _ => True.intro) ?_ ?_
          · exact ⟨same_new nD, upd_same⟩
          · rintro j x H4 H5 hj ⟨m4, hD⟩ ⟨e5, c, hcj, rfl⟩
            obtain rfl : H4 = H5 := e5.symm
            have hcl : (tl (figZ z))[j]? = some c := by
              show (figZ z).cps.toList[j]? = some c
              rw [Array.getElem?_toList]
              exact hcj
            have tk : (tl (figZ z)).take (j + 1) = (tl (figZ z)).take j ++ [c] := by rw [List.take_add_one, hcl] <;> rfl
            refine ⟨rfl, ?_⟩
            refine ⟨_, rfl, c, _, rfl, rfl, !digB c, congrArg V.bl (digit_in c), ite2 (fun q1 => ?_) (fun q1 => ?_)⟩
            · refine ⟨_, rfl, _, hD, ?_, ?_, ?_⟩
              · rw [List.length_map]
                have q1 := List.length_filter_le (fun c => !digB c) ((tl (figZ z)).take j)
                have q2 : ((tl (figZ z)).take j).length ≤ (tl (figZ z)).length := by rw [List.length_take]; exact Nat.min_le_right _ _
                rw [ef] at q2
                exact small1000 (by rw [ef] at *; omega)
              · exact same_put m4 nD
              · rw [upd_same, tk, List.filter_append, List.map_append]
                simp [q1]
            · refine ⟨m4, ?_⟩
              rw [hD, tk, List.filter_append]
              simp [q1]
          · rintro H4 ⟨m4, hD⟩
            have full : (tl (figZ z)).take (figZ z).cps.size = tl (figZ z) := List.take_of_length_le (by show (figZ z).cps.toList.length ≤ _; simp)
            rw [full] at hD
            refine ⟨(by show 0 ≤ sizeLine; decide), fun p np => ?_⟩
            have neDp : Dl ≠ p := ne_of_none hD np
            refine ⟨.list (((tl (figZ z)).filter fun c => !digB c).map fun c => .str ⟨#[c]⟩), .list [], .lst (SqL.of (by rw [upd_ne neDp]; exact hD)) (DpAll.map _ _ _ fun c _ => .str _), .lst (SqL.of upd_same) .nil, ?_, ?_, ?_⟩
            · have q1 : PyData.canLayAll0 (((tl (figZ z)).filter fun c => !digB c).map fun c => PyData.str ⟨#[c]⟩) = true := canAll _ _ fun c hcm => by
                have := fa c (List.mem_filter.mp hcm).1
                simp [PyData.canLay0, PyData.strOk]
                omega
              have q2 := depthAll0 0 (fun c => PyData.str ⟨#[c]⟩) ((tl (figZ z)).filter fun c => !digB c) fun c _ => by simp [PyData.depth]
              show (PyData.canLay0 (.list _) && decide (PyData.depth (.list _) ≤ 64)) = true
              rw [Bool.and_eq_true_iff]
              exact ⟨by simp only [PyData.canLay0]; exact q1, decide_eq_true (by simp only [PyData.depth]; omega)⟩
            · decide +kernel
            · refine ⟨_, rfl, kQ _ _ ⟨?_, m4.trans (same_new np)⟩⟩
              rw [eqv_nil, ef]
              unfold figOk
              rw [Bool.eq_false_iff.mpr h1, decide_eq_true l60, Bool.and_true, Bool.not_false, Bool.true_and]
              exact not_digs _
    · rintro H1 ⟨h1, s1⟩
      have e : wholeZ z = none := if_neg (by unfold numOkL; rw [show figOk (figs (tl z)) = false by simpa using h1.symm, Bool.false_and]; exact Bool.false_ne_true)
      rw [e] at k
      exact k _ s1
    · rintro H1 ⟨h1, s1⟩
      have h1 : figOk (figs (tl z)) = true := by simpa using h1.symm
      obtain ⟨c, r, hc⟩ : ∃ c r, figs (tl z) = c :: r := by
        cases e : figs (tl z) with
        | nil => rw [e] at h1; exact absurd h1 (by decide)
        | cons c r => exact ⟨c, r, rfl⟩
      have hp : tl (figZ z) = c :: r := by rw [ef, hc]
      have c0 : (figZ z).cps.toList[0]? = some c := by
        show (tl (figZ z))[0]? = some c
        rw [hp] <;> rfl
      have l60 : (figs (tl z)).length ≤ 60 := by
        unfold figOk at h1
        simp at h1
        exact h1.2.2
      have zs : z.length ≤ 61 := by
        rw [len_tl]
        unfold figs at l60
        split at l60
        · rw [List.length_tail] at l60
          omega
        · omega
      refine go_nx ?_
      refine a_if (fun b H' => b = !numOkL (tl z) ∧ Same H H') (fun Q' kQ => ?_) ?_ ?_
      · refine ⟨_, rfl, _, _, _, rfl, rfl, (by omega), atI_nat (j := 0) c0, rfl, _, rfl, ite2 (fun h2 => ?_) (fun h2 => ?_)⟩
        · refine ⟨_, rfl, _, rfl, (by omega), _, _, rfl, rfl, _, rfl, ite2 (fun h3 => kQ _ _ ⟨?_, s1⟩) (fun h3 => ?_)⟩
          · exact lead_many h1 hc (by simpa using h2) (by have := of_decide_eq_true h3; omega)
          · refine ⟨_, rfl, _, rfl, z, rfl, (by omega), rfl, _, congrArg V.bl (minus_cut z), kQ _ _ ⟨?_, s1⟩⟩
            exact lead_few h1 hc (by simpa using h2) (by have := of_decide_eq_false (Bool.eq_false_iff.mpr h3); omega)
        · exact kQ _ _ ⟨lead_ok h1 hc (by simpa using h2), s1⟩
      · rintro H2 ⟨h2, s2⟩
        have e : wholeZ z = none := if_neg (by rw [show numOkL (tl z) = false by simpa using h2.symm]; exact Bool.false_ne_true)
        rw [e] at k
        exact k _ s2
      · rintro H2 ⟨h2, s2⟩
        have h2 : numOkL (tl z) = true := by simpa using h2.symm
        obtain ⟨n, hn, _⟩ := num_in h2
        have e : wholeZ z = some n := by
          unfold wholeZ
          rw [if_pos h2, hn]
        rw [e] at k
        exact ⟨_, rfl, _, _, rfl, hn, (by omega), k _ s2⟩
end
end G

set_option Elab.async false
set_option linter.all false
set_option maxRecDepth 100000
set_option maxHeartbeats 4000000
namespace G
open PySem PySem.Spec PyProof.Rows L2
def BigF (f : Int × Int) : Prop := -BIG < f.1 ∧ f.1 < BIG ∧ -BIG < f.2 ∧ f.2 < BIG
theorem side_big {f : Int × Int} (h : Side 7 f) : BigF f := by
  obtain ⟨a, b, c, d⟩ := h
  unfold BigF BIG
  omega
theorem log_big {i : Int} (h1 : -BIG < i) (h2 : i < BIG) : i.natAbs.log2 < 1920 := by
  by_cases q : i.natAbs = 0
  · rw [q]
    decide +kernel
  · refine (Nat.log2_lt q).mpr (Nat.lt_of_lt_of_le (m := 2 ^ 200) ?_ (Nat.pow_le_pow_right (by decide) (by decide)))
    have e : (2 : Nat) ^ 200 = 1606938044258990275541962092341162602522202993782792835301376 := by decide +kernel
    unfold BIG at h1 h2
    omega
open TL in
theorem text_len {i : Int} (h1 : -BIG < i) (h2 : i < BIG) : (textZ i).length ≤ 61 := by
  have lt : i.natAbs < 10 ^ 60 := by
    have e60 : (10 : Nat) ^ 60 = 1000000000000000000000000000000000000000000000000000000000000 := by decide
    unfold BIG at h1 h2
    omega
  have hl : (numL i.natAbs).length ≤ 60 := numL_len (by decide) lt
  rw [len_tl, tl_text, List.length_append]
  split
  · show 1 + _ ≤ _
    omega
  · show 0 + _ ≤ _
    omega
def pairT (f : Int × Int) : Str := (textZ f.1 ++ ("." : Str)) ++ textZ f.2
def rowT (fs : List (Int × Int)) : Str := if fs = [] then "-" else Txt.join " " (fs.map pairT)
theorem pairT_len {f : Int × Int} (h : BigF f) : (pairT f).length ≤ 123 := by
  obtain ⟨a, b, c, d⟩ := h
  have l1 := text_len a b
  have l2 := text_len c d
  have l3 : Str.length ("." : Str) = 1 := by decide +kernel
  unfold pairT
  rw [Str.length_append, Str.length_append, l3]
  omega
open TL in
theorem empty_app (x : Str) : Str.empty ++ x = x := ext_tl (by rw [tl_append] <;> rfl)
def spPairText : Sp := fun vs H Q _ => ∃ (p : Addr) (f : Int × Int), vs = [.ref p] ∧ H p = some (.tup [.int f.1, .int f.2]) ∧ BigF f ∧ Q (.str (pairT f)) H
def spRowText : Sp := fun vs H Q _ => ∃ (v : V) (fs : List (Int × Int)), vs = [v] ∧ RowAt H v fs ∧ fs.length ≤ 200 ∧ (∀ f ∈ fs, BigF f) ∧ ∀ H', Same H H' → Q (.str (rowT fs)) H'
section
variable {P : Program} {w : World} {K : PySem.W.Frag} {mg : Str → Option Value} {base : Heap}
theorem c_pair_text (T : Txt K mg) (D : DefAt K mg "_law_pair_text" s__law_pair_text ["_law_pair"]) : CalG P w K mg base 1 "_law_pair_text" ["_law_pair"] spPairText := by
  refine calOk D sc__law_pair_text (fun xs H Q E h => ?_) (fun f cdv A out s H xs Q E hgd hr h => ?_)
  · obtain ⟨p, f, rfl, _⟩ := h
    rfl
  · obtain ⟨p, f, rfl, hp, hb, k⟩ := h
    have nd := sc__law_pair_text.nd
    refine ⟨_, (pss_one (ps_ret (pe_op op_add_str (pe_op op_add_str (pe_callTy call_str_int (by rfl) T.str (by decide +kernel) (pa_cons (pe_ix ix_tup (pv 0) pe_int (fun _ _ => rfl)) pa_nil)) pe_str) (pe_callTy call_str_int (by rfl) T.str (by decide +kernel) (pa_cons (pe_ix ix_tup (pv 0) pe_int (fun _ _ => rfl)) pa_nil))))), ?_⟩
    have sz : sizeLine = 16777216 := sizeLine_eq
    have l1 := text_len hb.1 hb.2.1
    have l2 := text_len hb.2.2.1 hb.2.2.2
    have l3 : Str.length ("." : Str) = 1 := by decide +kernel
    refine ⟨_, rfl, p, [.int f.1, .int f.2], 0, _, rfl, rfl, SqT.of hp, rfl, _, rfl, log_big hb.1 hb.2.1, _, _, rfl, rfl, ?_, ?_⟩
    · rw [l3]
      show (textZ f.1).length + 1 ≤ sizeLine
      omega
    · refine ⟨_, rfl, p, [.int f.1, .int f.2], 1, _, rfl, rfl, SqT.of hp, rfl, _, rfl, log_big hb.2.2.1 hb.2.2.2, _, _, rfl, rfl, ?_, k⟩
      rw [Str.length_append, l3]
      show (textZ f.1).length + 1 + (textZ f.2).length ≤ sizeLine
      omega
end
theorem eqv_unit4 (fs : List (Int × Int)) : PyData.eqv (rowD fs) (.tuple []) = fs.isEmpty := by
  cases fs <;> simp [rowD, PyData.eqv, PyData.eqvAll]
theorem shapedU4 : SeqAt.shaped (.tuple []) = true := by decide +kernel
theorem sum_le {xs : List Str} {n : Nat} (h : ∀ x ∈ xs, x.length ≤ n) : (xs.map (·.length)).sum ≤ xs.length * n := by
  induction xs with
  | nil => simp
  | cons x r ih =>
    have a := h x List.mem_cons_self
    have b := ih fun y hy => h y (List.mem_cons_of_mem _ hy)
    rw [List.map_cons, List.sum_cons, List.length_cons, Nat.add_mul, Nat.one_mul]
    show x.length + _ ≤ _
    omega
section
variable {P : Program} {w : World} {K : PySem.W.Frag} {mg : Str → Option Value} {base : Heap}
theorem join_fits {fs : List (Int × Int)} (hl : fs.length ≤ 200) (hb : ∀ f ∈ fs, BigF f) : ((fs.map pairT).map (·.length)).sum + (fs.map pairT).length * (" " : Str).length ≤ 16777216 := by
  have a := sum_le (xs := fs.map pairT) (n := 123) fun x hx => by
    obtain ⟨f, hf, rfl⟩ := List.mem_map.mp hx
    exact pairT_len (hb f hf)
  have b : (fs.map pairT).length = fs.length := List.length_map ..
  have c : (" " : Str).length = 1 := by decide +kernel
  rw [c, Nat.mul_one]
  rw [b] at a ⊢
  have : fs.length * 123 ≤ 200 * 123 := Nat.mul_le_mul_right _ hl
  omega
theorem c_row_text (T : Txt K mg) (C__law_pair_text : CalG P w K mg base 1 "_law_pair_text" ["_law_pair"] spPairText) (D : DefAt K mg "_law_row_text" s__law_row_text ["_law_row"]) :
    CalG P w K mg base 2 "_law_row_text" ["_law_row"] spRowText := by
  refine calOk D sc__law_row_text (fun xs H Q E h => ?_) (fun f cdv A out s H xs Q E hgd hr h => ?_)
  · obtain ⟨v, fs, rfl, _⟩ := h
    rfl
  · obtain ⟨v, fs, rfl, hrow, hl, hb, k⟩ := h
    have nd := sc__law_row_text.nd
    refine ⟨_, (pss_one (ps_ret (pe_ifExp (pt_cmpR (op_neD hr.units) (pv 0) (pe_tup pa_nil) (nomark _)) (pe_join pe_str (pe_lc (own := [("_law_form", 1)]) (g := gName 1) (by rfl) nd (pi_tup (pv 0)) (blkOk_by (own := [("_law_form", 1)]) (N := N__law_row_text) (sc := defScope s__law_row_text) (by decide +kernel)) (fun _ _ _ _ _ => pg_name (i := 1) nd rfl (.inl rfl)) (fun _ _ _ _ _ => pts_nil) (fun _ _ _ _ _ => pe_k C__law_pair_text hgd hr (by decide) rfl (pa_cons (pv 1) pa_nil)))) pe_str))), ?_⟩
    refine ⟨_, rfl, (by show 0 ≤ sizeLine; decide), fun p np => ?_⟩
    have s1 := same_new (H := H) (o := .tup []) np
    refine ⟨rowD fs, .tuple [], (hrow.grow s1).dx0.dp (noDictT fs), .tup (SqT.of upd_same) .nil, shapedT fs, shapedU4, _, congrArg V.bl (by rw [eqv_unit4]), ite2 (fun h1 => ?_) (fun h1 => ?_)⟩
    · have ne : fs ≠ [] := by
        rintro rfl
        cases h1
      have er : rowT fs = Txt.join " " (fs.map pairT) := if_neg ne
      rw [er] at k
      obtain ⟨a, xs, rfl, ha, hF⟩ := hrow.grow s1
      have lx := hF.len
      refine ⟨⟨_, rfl⟩, _, rfl, a, rfl, ⟨_, SqT.of ha⟩, fun Dl nD => ?_⟩
      refine lc_tup (K := K) (a := a) (xs := xs) (fun i H' => Same (upd H p (.tup [])) H' ∧ H' Dl = some (.lst (((fs.take i).map pairT).map V.str))) ?_ ?_ ?_ ?_
      · exact ⟨same_new nD, upd_same⟩
      · rintro i H' _ ⟨s2, _⟩
        exact SqT.of (s2 _ _ ha)
      · rintro i y H2 hi ⟨s2, hD⟩
        obtain ⟨q, f, rfl, hf, hp⟩ := hF.get i y hi
        have hil : i < xs.length := (List.getElem?_eq_some_iff.mp hi).1
        refine ⟨rfl, ?_⟩
        refine ⟨_, rfl, q, f, rfl, s2 _ _ hp, hb f (List.mem_of_getElem? hf), _, hD, ?_, same_put s2 nD, ?_⟩
        · rw [List.length_map, List.length_map, List.length_take]
          exact small1000 (by omega)
        · rw [upd_same, take_one hf, List.map_append, List.map_append] <;> rfl
      · rintro H2 ⟨s2, hD⟩
        rw [lx, List.take_length] at hD
        exact ⟨_, _, fs.map pairT, rfl, rfl, .inl (SqL.of hD), join_fits hl hb, k _ (s1.trans s2)⟩
    · have e : fs = [] := by
        cases fs with
        | nil => rfl
        | cons _ _ => exact absurd rfl h1
      have er : rowT fs = "-" := if_pos e
      rw [er] at k
      exact k _ s1
end
end G

set_option Elab.async false
set_option linter.all false
set_option maxRecDepth 100000
set_option maxHeartbeats 4000000
namespace G
open PySem PySem.Spec PyProof.Rows L2
def spWritePair : Sp := fun vs H Q _ => ∃ (x : V) (f : Int × Int), vs = [x] ∧ Dx H x (formD f) ∧ BigF f ∧ ∀ H', Same H H' → Q (.str (pairT f)) H'
def spRightRow : Sp := fun vs H Q _ => ∃ (x : V) (d : PyData), vs = [x] ∧ Dx H x d ∧ rowB d = true ∧ ∀ H', Same H H' → Q .non H'
def spWriteRow : Sp := fun vs H Q _ => ∃ (x : V) (fs : List (Int × Int)), vs = [x] ∧ RowAt H x fs ∧ rowB (rowD fs) = true ∧ ∀ H', Same H H' → Q (.str (rowT fs)) H'
def spMirrorR : Sp := fun vs H Q _ => ∃ (x : V) (fs : List (Int × Int)), vs = [x] ∧ RowAt H x fs ∧ rowB (rowD fs) = true ∧ ∀ v H', Same H H' → RowAt H' v (fs.map Prod.swap) → Q v H'
theorem formD_inj {f g : Int × Int} (h : formD f = formD g) : f = g := by
  unfold formD at h
  injection h with h
  injection h with h1 h2
  injection h2 with h2
  injection h1 with h1
  injection h2 with h2
  exact Prod.ext h1 h2
theorem rowD_inj {fs gs : List (Int × Int)} (h : rowD fs = rowD gs) : fs = gs := by
  unfold rowD at h
  injection h with h
  exact List.map_inj_right (fun _ _ e => formD_inj e) |>.mp h
theorem pair_big {f : Int × Int} (h : BigF f) : pairB (formD f) = true := by
  obtain ⟨a, b, c, d⟩ := h
  simp [formD, pairB, intB, smallB, a, b, c, d]
def spSwap : Sp := fun vs H Q _ => ∃ (p : Addr) (f : Int × Int), vs = [.ref p] ∧ H p = some (.tup [.int f.1, .int f.2]) ∧ ∀ (q : Addr) (H' : Hp), Same H H' → H' q = some (.tup [.int f.2, .int f.1]) → Q (.ref q) H'
section
variable {gq : Bool} {P : Program} {w : World} {K : PySem.W.Frag} {mg : Str → Option Value} {base : Heap}
theorem c_write_pair (T : Txt K mg) (C_is_pair : CalQ gq P w K mg base 2 "is_pair" ["value"] (spJ pairB)) (D : DefAt K mg "write_pair" s_write_pair ["pair"]) :
    CalQ gq P w K mg base 3 "write_pair" ["pair"] spWritePair := by
  refine calOkQ D sc_write_pair (fun xs H Q E h => ?_) (fun f cdv A out s H xs Q E hgd hr h => ?_)
  · obtain ⟨x, f, rfl, _⟩ := h
    rfl
  · obtain ⟨x, f, rfl, hx, hb, k⟩ := h
    have nd := sc_write_pair.nd
    refine ⟨_, (pss_cons (ps_if (pt_not (pt_val (pe_kq C_is_pair hgd hr (by decide) rfl (pa_cons (pv 0) pa_nil)))) (pss_one (ps_never)) pss_nil)
      (pss_one (ps_ret (pe_joined (PJ.cons (pe_fmt (pe_ix ix_tup (pv 0) pe_int (fun _ _ => rfl))) (PJ.cons pe_str (PJ.cons (pe_fmt (pe_ix ix_tup (pv 0) pe_int (fun _ _ => rfl))) PJ.nil))))))), ?_⟩
    have sz : sizeLine = 16777216 := sizeLine_eq
    have l1 := text_len hb.1 hb.2.1
    have l2 := text_len hb.2.2.1 hb.2.2.2
    have l3 : Str.length ("." : Str) = 1 := by decide +kernel
    refine a_if (fun b H' => b = false ∧ Same H H') (fun Q' kQ => ?_) (fun H' h => nomatch h.1) (fun H' h => ?_)
    · exact ⟨_, rfl, _, _, rfl, hx, fun H1 s1 => ⟨true, congrArg V.bl (pair_big hb), kQ _ _ ⟨rfl, s1⟩⟩⟩
    · obtain ⟨_, s1⟩ := h
      refine go_nx ?_
      obtain ⟨p, rfl⟩ : ∃ p, x = .ref p := by
        cases hx
        exact ⟨_, rfl⟩
      have hp := (hx.grow s1).form
      refine ⟨_, rfl, p, [.int f.1, .int f.2], 0, _, rfl, rfl, SqT.of hp, rfl, .inr ⟨_, rfl, log_big hb.1 hb.2.1, _, rfl, ?_, _, rfl, ?_, ?_⟩⟩
      · rw [empty_app]
        show (textZ f.1).length ≤ _
        omega
      · rw [empty_app, Str.length_append, l3]
        show (textZ f.1).length + 1 ≤ _
        omega
      · refine ⟨_, rfl, p, [.int f.1, .int f.2], 1, _, rfl, rfl, SqT.of hp, rfl, .inr ⟨_, rfl, log_big hb.2.2.1 hb.2.2.2, _, rfl, ?_, ?_⟩⟩
        · rw [empty_app, Str.length_append, Str.length_append, l3]
          show (textZ f.1).length + 1 + (textZ f.2).length ≤ _
          omega
        · show Q (.str _) _
          rw [empty_app]
          exact k _ s1
theorem c_check_row (T : Txt K mg) (C_is_row : CalQ gq P w K mg base 6 "is_row" ["value"] (spJ rowB)) (D : DefAt K mg "check_row" s_check_row ["row"]) : CalQ gq P w K mg base 7 "check_row" ["row"] spRightRow := by
  refine calOkQ D sc_check_row (fun xs H Q E h => ?_) (fun f cdv A out s H xs Q E hgd hr h => ?_)
  · obtain ⟨x, d, rfl, _⟩ := h
    rfl
  · obtain ⟨x, d, rfl, hx, hb, k⟩ := h
    have nd := sc_check_row.nd
    refine ⟨_, (pss_one (ps_if (pt_not (pt_val (pe_kq C_is_row hgd hr (by decide) rfl (pa_cons (pv 0) pa_nil)))) (pss_one (ps_never)) pss_nil)), ?_⟩
    refine a_if1 (fun b H' => b = false ∧ Same H H') (fun Q' kQ => ?_) (fun H' h => nomatch h.1) (fun H' h => k H' h.2)
    exact ⟨_, rfl, _, _, rfl, hx, fun H1 s1 => ⟨true, congrArg V.bl hb, kQ _ _ ⟨rfl, s1⟩⟩⟩
theorem c_write_row (T : Txt K mg) (C_check_row : CalQ gq P w K mg base 7 "check_row" ["row"] spRightRow) (D : DefAt K mg "write_row" s_write_row ["row"]) : CalQ gq P w K mg base 8 "write_row" ["row"] spWriteRow := by
  refine calOkQ D sc_write_row (fun xs H Q E h => ?_) (fun f cdv A out s H xs Q E hgd hr h => ?_)
  · obtain ⟨x, fs, rfl, _⟩ := h
    rfl
  · obtain ⟨x, fs, rfl, hrow, hb, k⟩ := h
    have nd := sc_write_row.nd
    refine ⟨_, (pss_cons (ps_expr (pe_kq C_check_row hgd hr (by decide) rfl (pa_cons (pv 0) pa_nil)))
      (pss_cons (ps_if (pt_cmpR (op_eqD hr.units) (pv 0) (pe_tup pa_nil) (nomark _)) (pss_one (ps_ret pe_str)) pss_nil)
      (pss_one (ps_ret (pe_join pe_str (pe_lc (own := [("left", 1), ("right", 2)]) (g := (gTup K 2 (gCons (gName 1) (gCons (gName 2) gNil)))) (by rfl) nd (pi_tup (pv 0)) (blkOk_by (own := [("left", 1), ("right", 2)]) (N := N_write_row) (sc := defScope s_write_row) (by decide +kernel)) (fun _ _ _ _ _ => pg_tup (by rfl) (pgs_cons (pg_name (i := 1) nd rfl (.inl rfl)) (pgs_cons (pg_name (i := 2) nd rfl (.inl rfl)) pgs_nil))) (fun _ _ _ _ _ => pts_nil) (fun _ _ _ _ _ => pe_joined (PJ.cons (pe_fmt (pv 1)) (PJ.cons pe_str (PJ.cons (pe_fmt (pv 2)) PJ.nil)))))))))), ?_⟩
    have sz : sizeLine = 16777216 := sizeLine_eq
    obtain ⟨gs, eg, hl, hs, _⟩ := rowB_out hb
    obtain rfl : fs = gs := rowD_inj eg
    refine ⟨_, rfl, x, _, rfl, hrow.dx0, hb, fun H1 s1 => ?_⟩
    refine go_nx ?_
    refine a_if (fun b H' => b = fs.isEmpty ∧ Same H H') (fun Q' kQ => ?_) (fun H' h => ?_) (fun H' h => ?_)
    · refine ⟨_, rfl, (by show 0 ≤ sizeLine; decide), fun p np => ?_⟩
      have s2 := same_new (H := H1) (o := .tup []) np
      exact ⟨rowD fs, .tuple [], (hrow.grow (s1.trans s2)).dx0.dp (noDictT fs), .tup (SqT.of upd_same) .nil, shapedT fs, shapedU4, _, congrArg V.bl (eqv_unit4 fs), kQ _ _ ⟨rfl, s1.trans s2⟩⟩
    · have e : fs = [] := by
        cases fs with
        | nil => rfl
        | cons _ _ => exact Bool.noConfusion (show true = false from h.1)
      have er : rowT fs = "-" := if_pos e
      rw [er] at k
      exact k _ h.2
    · obtain ⟨h1, s2⟩ := h
      have ne : fs ≠ [] := by
        rintro rfl
        cases h1
      have er : rowT fs = Txt.join " " (fs.map pairT) := if_neg ne
      rw [er] at k
      refine go_nx ?_
      obtain ⟨a, xs, rfl, ha, hF⟩ := hrow.grow s2
      have lx := hF.len
      refine ⟨⟨_, rfl⟩, _, rfl, a, rfl, ⟨_, SqT.of ha⟩, fun Dl nD => ?_⟩
      refine lc_tup (te := fun σ H Q => tJs [tFmt (tVar 1), tC (.str "."), tFmt (tVar 2)] Str.empty σ H fun out H1 => Q (.str out) H1) (K := K) (a := a) (xs := xs) (fun i H2 => Same H' H2 ∧ H2 Dl = some (.lst (((fs.take i).map pairT).map V.str))) ?_ ?_ ?_ ?_
      · exact ⟨same_new nD, upd_same⟩
      · rintro i H2 _ ⟨s3, _⟩
        exact SqT.of (s3 _ _ ha)
      · rintro i y H2 hi ⟨s3, hD⟩
        obtain ⟨q, f, rfl, hf, hp⟩ := hF.get i y hi
        have hil : i < xs.length := (List.getElem?_eq_some_iff.mp hi).1
        have bf := side_big (hs f (List.mem_of_getElem? hf))
        have l1 := text_len bf.1 bf.2.1
        have l2 := text_len bf.2.2.1 bf.2.2.2
        have l3 : Str.length ("." : Str) = 1 := by decide +kernel
        refine ⟨q, [.int f.1, .int f.2], rfl, SqT.of (s3 _ _ hp), rfl, .int f.1, [.int f.2], rfl, .int f.2, [], rfl, rfl, rfl, ?_⟩
        refine ⟨_, rfl, .inr ⟨_, rfl, log_big bf.1 bf.2.1, _, rfl, ?_, _, rfl, ?_, ?_⟩⟩
        · rw [empty_app]
          show (textZ f.1).length ≤ _
          omega
        · rw [empty_app, Str.length_append, l3]
          show (textZ f.1).length + 1 ≤ _
          omega
        · refine ⟨_, rfl, .inr ⟨_, rfl, log_big bf.2.2.1 bf.2.2.2, _, rfl, ?_, ?_⟩⟩
          · rw [empty_app, Str.length_append, Str.length_append, l3]
            show (textZ f.1).length + 1 + (textZ f.2).length ≤ _
            omega
          · refine ⟨_, hD, ?_, same_put s3 nD, ?_⟩
            · rw [List.length_map, List.length_map, List.length_take]
              exact small1000 (by omega)
            · rw [upd_same, take_one hf, List.map_append, List.map_append, empty_app] <;> rfl
      · rintro H2 ⟨s3, hD⟩
        rw [lx, List.take_length] at hD
        exact ⟨_, _, fs.map pairT, rfl, rfl, .inl (SqL.of hD), join_fits hl (fun f hf => side_big (hs f hf)), k _ (s2.trans s3)⟩
theorem c_mirrored_pair (T : Txt K mg) (D : DefAt K mg "mirrored_pair" s_mirrored_pair ["pair"]) : CalQ gq P w K mg base 1 "mirrored_pair" ["pair"] spSwap := by
  refine calOkQ D sc_mirrored_pair (fun xs H Q E h => ?_) (fun f cdv A out s H xs Q E hgd hr h => ?_)
  · obtain ⟨p, f, rfl, _⟩ := h
    rfl
  · obtain ⟨p, f, rfl, hp, k⟩ := h
    have nd := sc_mirrored_pair.nd
    refine ⟨_, (pss_one (ps_ret (pe_tup (pa_cons (pe_ix ix_tup (pv 0) pe_int (fun _ _ => rfl)) (pa_cons (pe_ix ix_tup (pv 0) pe_int (fun _ _ => rfl)) pa_nil))))), ?_⟩
    refine ⟨_, rfl, _, _, _, _, rfl, rfl, SqT.of hp, atI_nat (j := 1) rfl, _, rfl, _, _, _, _, rfl, rfl, SqT.of hp, atI_nat (j := 0) rfl, (by show 2 ≤ sizeLine; decide), fun q nq => ?_⟩
    exact k q _ (same_new nq) upd_same
theorem c_mirrored (T : Txt K mg) (C_mirrored_pair : CalQ gq P w K mg base 1 "mirrored_pair" ["pair"] spSwap) (C_check_row : CalQ gq P w K mg base 7 "check_row" ["row"] spRightRow) (D : DefAt K mg "mirrored_row" s_mirrored_row ["row"]) : CalQ gq P w K mg base 8 "mirrored_row" ["row"] spMirrorR := by
  refine calOkQ D sc_mirrored_row (fun xs H Q E h => ?_) (fun f cdv A out s H xs Q E hgd hr h => ?_)
  · obtain ⟨x, fs, rfl, _⟩ := h
    rfl
  · obtain ⟨x, fs, rfl, hrow, hb, k⟩ := h
    have nd := sc_mirrored_row.nd
    refine ⟨_, (pss_cons (ps_expr (pe_kq C_check_row hgd hr (by decide) rfl (pa_cons (pv 0) pa_nil)))
      (pss_one (ps_ret (pe_callTy call_tuple_of (by rfl) T.tuple (by decide +kernel) (pa_cons (pe_lc (own := [("form", 1)]) (g := gName 1) (by rfl) nd (pi_tup (pv 0)) (blkOk_by (own := [("form", 1)]) (N := N_mirrored_row) (sc := defScope s_mirrored_row) (by decide +kernel)) (fun _ _ _ _ _ => pg_name (i := 1) nd rfl (.inl rfl)) (fun _ _ _ _ _ => pts_nil) (fun _ _ _ _ _ => pe_kq C_mirrored_pair hgd hr (by decide) rfl (pa_cons (pv 1) pa_nil))) pa_nil))))), ?_⟩
    obtain ⟨gs, eg, hl, hs, _⟩ := rowB_out hb
    obtain rfl : fs = gs := rowD_inj eg
    refine ⟨_, rfl, x, _, rfl, hrow.dx0, hb, fun H1 s1 => ?_⟩
    refine go_nx ?_
    obtain ⟨a, xs, rfl, ha, hF⟩ := hrow.grow s1
    have lx := hF.len
    refine ⟨_, rfl, a, rfl, ⟨_, SqT.of ha⟩, fun Dl nD => ?_⟩
    refine lc_tup (K := K) (a := a) (xs := xs) (fun i H' => ∃ ys, Same H1 H' ∧ H' Dl = some (.lst ys) ∧ FormsAt H' ys ((fs.take i).map Prod.swap)) ?_ ?_ ?_ ?_
    · exact ⟨[], same_new nD, upd_same, .nil⟩
    · rintro i H' _ ⟨ys, s2, _, _⟩
      exact SqT.of (s2 _ _ ha)
    · rintro i y H2 hi ⟨ys, s2, hD, hG⟩
      obtain ⟨p, f, rfl, hf, hp⟩ := hF.get i y hi
      have hil : i < xs.length := (List.getElem?_eq_some_iff.mp hi).1
      have ly : ys.length < sizeLine := by
        rw [hG.len, List.length_map, List.length_take]
        exact small1000 (by omega)
      refine ⟨rfl, ?_⟩
      refine ⟨_, rfl, p, f, rfl, s2 _ _ hp, fun q H3 s3 hq => ?_⟩
      refine ⟨ys, s3 _ _ hD, ly, ys ++ [.ref q], Same.put (s2.trans s3) nD, upd_same, ?_⟩
      rw [take_one hf, List.map_append]
      exact ((hG.keep fun p zs z => s3 _ _ z).append (.cons hq .nil)).keep (tups_put (s3 _ _ hD))
    · rintro H2 ⟨ys, s2, hD, hG⟩
      refine ⟨Dl, ys, rfl, .inl ⟨SqL.of hD, fun q nq => ?_⟩⟩
      refine k _ _ ((s1.trans s2).trans (same_new nq)) ⟨q, ys, rfl, upd_same, ?_⟩
      rw [lx, List.take_length] at hG
      exact hG.keep fun p zs z => same_new nq _ _ z
end
end G

set_option Elab.async false
set_option linter.all false
set_option maxRecDepth 100000
set_option maxHeartbeats 4000000
namespace G
open PySem PySem.Spec PyProof.Rows L2
def ovD : Option Int → PyData
  | none => .none
  | some n => .int n
def pairZ (z : Str) : Option (Int × Int) := match (Txt.split z ".").map wholeZ with
  | [some a, some b] => some (a, b)
  | _ => none
open TL in
theorem spl_sub (S : List Nat) : ∀ (l : List Nat) (k : Nat) (acc p : List Nat), p ∈ spl S k acc l → p.length ≤ acc.length + l.length ∧ ∀ c ∈ p, c ∈ acc ∨ c ∈ l := by
  intro l
  induction l with
  | nil =>
    intro k acc p h
    rw [spl_nil] at h
    rw [List.mem_singleton.mp h]
    exact ⟨by simp, fun c hc => .inl hc⟩
  | cons c r ih =>
    intro k acc p h
    cases k with
    | zero =>
      by_cases q : pre S (c :: r) = true
      · rw [spl_hit q] at h
        rcases List.mem_cons.mp h with rfl | h
        · exact ⟨by simp, fun c hc => .inl hc⟩
        · obtain ⟨a, b⟩ := ih _ _ _ h
          refine ⟨?_, fun x hx => ?_⟩
          · rw [List.length_nil] at a
            rw [List.length_cons]
            omega
          · rcases b x hx with e | e
            · cases e
            · exact .inr (List.mem_cons_of_mem _ e)
      · have e : spl S 0 acc (c :: r) = spl S 0 (acc ++ [c]) r := if_neg q
        rw [e] at h
        obtain ⟨a, b⟩ := ih _ _ _ h
        refine ⟨?_, fun x hx => ?_⟩
        · rw [List.length_append] at a
          rw [List.length_cons]
          simp at a
          omega
        · rcases b x hx with e | e
          · rcases List.mem_append.mp e with e | e
            · exact .inl e
            · exact .inr (by rw [List.mem_singleton.mp e]; exact List.mem_cons_self)
          · exact .inr (List.mem_cons_of_mem _ e)
    | succ k =>
      have e : spl S (k + 1) acc (c :: r) = spl S k acc r := rfl
      rw [e] at h
      obtain ⟨a, b⟩ := ih _ _ _ h
      refine ⟨by rw [List.length_cons]; omega, fun x hx => ?_⟩
      rcases b x hx with e | e
      · exact .inl e
      · exact .inr (List.mem_cons_of_mem _ e)
open TL in
theorem part_sub {z y : Str} (hy : tl y ≠ []) (hk : y.cps.all (· < 256) = true) {p : Str} (h : p ∈ Txt.split z y) : p.length ≤ z.length ∧ ∀ c ∈ tl p, c ∈ tl z := by
  have e := split_spl z y hy (kind_ok hk)
  have hm : tl p ∈ spl (tl y) 0 [] (tl z) := by
    rw [← e]
    exact List.mem_map_of_mem h
  obtain ⟨a, b⟩ := spl_sub _ _ _ _ _ hm
  refine ⟨?_, fun c hc => ?_⟩
  · rw [len_tl, len_tl z]
    simpa using a
  · rcases b c hc with x | x
    · cases x
    · exact x
theorem ov_dx (H : Hp) : ∀ ps : List Str, DxAll H (ps.map fun p => ovI (wholeZ p)) (ps.map fun p => ovD (wholeZ p))
  | [] => .nil
  | p :: r => by
    refine .cons ?_ (ov_dx H r)
    show Dx H (ovI (wholeZ p)) (ovD (wholeZ p))
    cases wholeZ p with
    | none => exact .non
    | some n => exact .int n
theorem whole_int {z : Str} {n : Int} (h : wholeZ z = some n) : smallB n = true := by
  obtain ⟨_, a, b⟩ := whole_in h
  unfold smallB
  rw [decide_eq_true a, decide_eq_true b] <;> rfl
theorem pair_z (z : Str) : pairB (.tuple ((Txt.split z ".").map fun p => ovD (wholeZ p))) = (pairZ z).isSome := by
  unfold pairZ
  cases Txt.split z "." with
  | nil => rfl
  | cons a r =>
    cases r with
    | nil => cases ha : wholeZ a <;> simp [ha, pairB]
    | cons b r =>
      cases r with
      | nil =>
        cases ha : wholeZ a with
        | none => simp [ha, pairB, ovD, intB]
        | some n =>
          cases hb : wholeZ b with
          | none => simp [ha, hb, pairB, ovD, intB]
          | some m => simp [ha, hb, pairB, ovD, intB, whole_int ha, whole_int hb]
      | cons c r => cases ha : wholeZ a <;> cases hb : wholeZ b <;> simp [ha, hb, pairB]
theorem pair_some {z : Str} {f : Int × Int} (h : pairZ z = some f) : ((Txt.split z ".").map fun p => ovI (wholeZ p)) = [.int f.1, .int f.2] ∧ BigF f ∧ Txt.split z "." = [textZ f.1, textZ f.2] := by
  unfold pairZ at h
  split at h
  · rename_i a b e
    injection h with h
    subst h
    cases hs : Txt.split z "." with
    | nil => rw [hs] at e; simp at e
    | cons p r =>
      rw [hs] at e
      cases r with
      | nil => simp at e
      | cons q r =>
        cases r with
        | cons _ _ => simp at e
        | nil =>
          simp only [List.map_cons, List.map_nil, List.cons.injEq, and_true] at e
          obtain ⟨e1, e2⟩ := e
          obtain ⟨t1, b1, b2⟩ := whole_in e1
          obtain ⟨t2, b3, b4⟩ := whole_in e2
          refine ⟨by simp [e1, e2, ovI], ⟨b1, b2, b3, b4⟩, by rw [t1, t2]⟩
  · cases h
def ParseOut (C : Addr) (H : Hp) (E : XK) : Prop := ∀ (H' : Hp) (dd : Addr), Same H H' → H' dd = none → E (.ref C) (some dd) (upd H' dd (.xd [(("number" : Str), .non)]))
/-- what a reading of a text gives for data of any kind -/
def spReadPair (C : Addr) : Sp := fun vs H Q E => ∃ (x : V) (d : PyData), vs = [x] ∧ Dx H x d ∧ (∀ z, d = .str z → z.length ≤ 1000000) ∧
  (∀ z f, d = .str z → pairZ z = some f → ∀ (p : Addr) H', Same H H' → H' p = some (.tup [.int f.1, .int f.2]) → Q (.ref p) H') ∧ ((∀ z f, d = .str z → pairZ z ≠ some f) → ParseOut C H E)
def spPairOf2 : Sp := fun vs H Q _ => ∃ (z : Str), vs = [.str z] ∧ z.length ≤ 1000000 ∧
  (∀ f, pairZ z = some f → ∀ (p : Addr) H', Same H H' → H' p = some (.tup [.int f.1, .int f.2]) → Q (.ref p) H') ∧ (pairZ z = none → ∀ H', Same H H' → Q .non H')
section
variable {gq : Bool} {P : Program} {w : World} {K : PySem.W.Frag} {mg : Str → Option Value} {base : Heap}
theorem dot_one : TL.tl ("." : Str) ≠ [] ∧ ("." : Str).cps.all (· < 256) = true ∧ (("." : Str).length == 0) = false := by decide +kernel
theorem c_pair_of2 (T : Txt K mg) (C_integer_of : CalQ gq P w K mg base 1 "integer_of" ["text"] spWhole) (C_is_pair : CalQ gq P w K mg base 2 "is_pair" ["value"] (spJ pairB)) (D : DefAt K mg "pair_of" s_pair_of ["text"]) :
    CalQ gq P w K mg base 3 "pair_of" ["text"] spPairOf2 := by
  refine calOkQ D sc_pair_of (fun xs H Q E h => ?_) (fun f cdv A out s H xs Q E hgd hr h => ?_)
  · obtain ⟨z, rfl, _⟩ := h
    rfl
  · obtain ⟨z, rfl, lz, k1, k2⟩ := h
    have nd := sc_pair_of.nd
    refine ⟨_, (pss_cons (ps_set (i := 1) nd rfl (.inl rfl) (pe_callTy call_tuple_of (by rfl) T.tuple (by decide +kernel) (pa_cons (pe_lc (own := [("part", 2)]) (g := gName 2) (by rfl) nd (pi_list (pe_split (pv 0) pe_str)) (blkOk_by (own := [("part", 2)]) (N := N_pair_of) (sc := defScope s_pair_of) (by decide +kernel)) (fun _ _ _ _ _ => pg_name (i := 2) nd rfl (.inl rfl)) (fun _ _ _ _ _ => pts_nil) (fun _ _ _ _ _ => pe_kq C_integer_of hgd hr (by decide) rfl (pa_cons (pv 2) pa_nil))) pa_nil)))
      (pss_cons (ps_if (pt_not (pt_val (pe_kq C_is_pair hgd hr (by decide) rfl (pa_cons (pv 1) pa_nil)))) (pss_one (ps_ret pe_non)) pss_nil)
      (pss_one (ps_ret (pv 1))))), ?_⟩
    have sz : sizeLine = 16777216 := sizeLine_eq
    have sp := PyProof.Rows.split_le z "."
    have px := fun p (hp : p ∈ Txt.split z ".") => part_sub (z := z) dot_one.1 dot_one.2.1 hp
    refine a_set (fun v H' => ∃ q, v = .ref q ∧ Same H H' ∧ H' q = some (.tup ((Txt.split z ".").map fun p => ovI (wholeZ p)))) (fun Q' kQ => ?_) ?_
    · refine ⟨_, rfl, ⟨_, rfl⟩, _, _, rfl, rfl, dot_one.2.2, (by omega), fun a np => ?_⟩
      have s1 := same_new (H := H) (o := .lst ((Txt.split z ".").map V.str)) np
      refine ⟨a, rfl, ⟨_, SqL.of upd_same⟩, fun Dl nD => ?_⟩
      refine lc_list (K := K) (a := a) (xs := (Txt.split z ".").map V.str) (fun i H' => Same (upd H a (.lst ((Txt.split z ".").map V.str))) H' ∧ H' Dl = some (.lst (((Txt.split z ".").take i).map fun p => ovI (wholeZ p)))) ?_ ?_ ?_ ?_
      · exact ⟨same_new nD, upd_same⟩
      · rintro i H' _ ⟨s2, _⟩
        exact SqL.of (s2 _ _ upd_same)
      · rintro i y H2 hi ⟨s2, hD⟩
        rw [List.getElem?_map] at hi
        obtain ⟨p, hp, rfl⟩ := Option.map_eq_some_iff.mp hi
        have hm := List.mem_of_getElem? hp
        refine ⟨rfl, ?_⟩
        refine ⟨_, rfl, p, rfl, (by have := (px p hm).1; omega), _, hD, ?_, same_put s2 nD, ?_⟩
        · rw [List.length_map, List.length_take]
          have := Nat.min_le_right i (Txt.split z ".").length
          omega
        · rw [upd_same, take_one hp, List.map_append] <;> rfl
      · rintro H2 ⟨s2, hD⟩
        rw [List.length_map, List.take_length] at hD
        exact ⟨Dl, _, rfl, .inl ⟨SqL.of hD, fun q nq => kQ _ _ ⟨q, rfl, (s1.trans s2).trans (same_new nq), upd_same⟩⟩⟩
    rintro _ H1 ⟨q, rfl, s1, hq⟩
    have hD : Dx H1 (.ref q) (.tuple ((Txt.split z ".").map fun p => ovD (wholeZ p))) := .tup hq (ov_dx H1 _)
    refine a_if (fun b H' => b = !(pairZ z).isSome ∧ Same H1 H') (fun Q' kQ => ?_) ?_ ?_
    · exact ⟨_, rfl, _, _, rfl, hD, fun H2 s2 => ⟨_, congrArg V.bl (pair_z z), kQ _ _ ⟨rfl, s2⟩⟩⟩
    · rintro H2 ⟨h2, s2⟩
      exact k2 (by simpa using h2) H2 (s1.trans s2)
    · rintro H2 ⟨h2, s2⟩
      cases hp : pairZ z with
      | none => rw [hp] at h2; cases h2
      | some f =>
        obtain ⟨e, _, _⟩ := pair_some hp
        rw [e] at hq
        refine go_nx ?_
        exact ⟨_, rfl, k1 f hp q H2 (s1.trans s2) (s2 _ _ hq)⟩
theorem x_read_pair {CP fI : Addr} (T : Txt K mg) (O_ParseError : OwnParseError.Txt K mg CP fI) (C_pair_of : CalQ gq P w K mg base 3 "pair_of" ["text"] spPairOf2) (D : DefAt K mg "read_pair" s_read_pair ["text"]) :
    CalXQ gq P w K mg base 4 "read_pair" ["text"] (spReadPair CP) := by
  refine calOkXQ D sc_read_pair (fun xs H Q E h => ?_) (fun f cdv A out s H xs Q E hgd hr h => ?_)
  · obtain ⟨x, d, rfl, _⟩ := h
    rfl
  · obtain ⟨x, d, rfl, hx, hz, k1, k2⟩ := h
    have nd := sc_read_pair.nd
    refine ⟨_, (pss_cons (ps_set (i := 1) nd rfl (.inl rfl) (pe_ifExp (pt_val (pe_callB call_isi (by rfl) T.isinstance (by decide +kernel) (pa_cons (pv 0) (pa_cons (pe_ty "str" rfl T.str (by decide +kernel)) pa_nil)))) (pe_kq C_pair_of hgd hr (by decide) rfl (pa_cons (pv 0) pa_nil)) pe_non))
      (pss_cons (ps_if (pt_cmpR op_isN (pv 1) pe_non (nomark _)) (pss_one (ps_raise rfl (takes_of rfl rfl rfl rfl) (OwnParseError.pmk O_ParseError hr rfl (pa_cons pe_non pa_nil)))) pss_nil)
      (PSs.nox (pss_one (ps_ret (pv 1)))))), ?_⟩
    refine a_set (fun v H' => Same H H' ∧ ((∃ p z f, v = .ref p ∧ d = .str z ∧ pairZ z = some f ∧ H' p = some (.tup [.int f.1, .int f.2])) ∨ (v = .non ∧ ∀ z f, d = .str z → pairZ z ≠ some f))) (fun Q' kQ => ?_) ?_
    · cases hx with
      | str z =>
        refine ⟨_, rfl, _, _, _, _, true, rfl, .ty _, Dx.ty (.str z), kit_ty (by show kitB "str" _ = _; decide +kernel), true, rfl, iteT ?_⟩
        refine ⟨_, rfl, z, rfl, hz z rfl, fun f hp p H' s h1 => kQ _ _ ⟨s, .inl ⟨p, z, f, rfl, rfl, hp, h1⟩⟩, fun hp H' s => kQ _ _ ⟨s, .inr ⟨rfl, ?_⟩⟩⟩
        rintro z' f e h
        injection e with e
        subst e
        rw [hp] at h
        cases h
      | non => exact ⟨_, rfl, _, _, _, _, false, rfl, .ty _, Dx.ty .non, kit_ty (by show kitB "NoneType" _ = _; decide +kernel), false, rfl, iteF (kQ _ _ ⟨Same.refl _, .inr ⟨rfl, fun _ _ z => by cases z⟩⟩)⟩
      | bl b => exact ⟨_, rfl, _, _, _, _, false, rfl, .ty _, Dx.ty (.bl b), kit_ty (by show kitB "bool" _ = _; decide +kernel), false, rfl, iteF (kQ _ _ ⟨Same.refl _, .inr ⟨rfl, fun _ _ z => by cases z⟩⟩)⟩
      | int i => exact ⟨_, rfl, _, _, _, _, false, rfl, .ty _, Dx.ty (.int i), kit_ty (by show kitB "int" _ = _; decide +kernel), false, rfl, iteF (kQ _ _ ⟨Same.refl _, .inr ⟨rfl, fun _ _ z => by cases z⟩⟩)⟩
      | lst h1 h2 => exact ⟨_, rfl, _, _, _, _, false, rfl, .ty _, Dx.ty (.lst h1 h2), kit_ty (by show kitB "list" _ = _; decide +kernel), false, rfl, iteF (kQ _ _ ⟨Same.refl _, .inr ⟨rfl, fun _ _ z => by cases z⟩⟩)⟩
      | tup h1 h2 => exact ⟨_, rfl, _, _, _, _, false, rfl, .ty _, Dx.ty (.tup h1 h2), kit_ty (by show kitB "tuple" _ = _; decide +kernel), false, rfl, iteF (kQ _ _ ⟨Same.refl _, .inr ⟨rfl, fun _ _ z => by cases z⟩⟩)⟩
      | dct h1 h2 => exact ⟨_, rfl, _, _, _, _, false, rfl, .ty _, Dx.ty (.dct h1 h2), kit_ty (by show kitB "dict" _ = _; decide +kernel), false, rfl, iteF (kQ _ _ ⟨Same.refl _, .inr ⟨rfl, fun _ _ z => by cases z⟩⟩)⟩
    rintro v H1 ⟨s1, ⟨p, z, f, rfl, rfl, hp, h1⟩ | ⟨rfl, no⟩⟩
    · refine a_if (fun b H' => b = false ∧ H1 = H') (fun Q' kQ => ⟨_, rfl, rfl, _, rfl, kQ _ _ ⟨by simp, rfl⟩⟩) (fun H' h => nomatch h.1) ?_
      rintro _ ⟨_, rfl⟩
      refine go_nx ?_
      exact ⟨_, rfl, k1 z f rfl hp p H1 s1 h1⟩
    · refine a_if (fun b H' => b = true ∧ H1 = H') (fun Q' kQ => ⟨_, rfl, rfl, _, rfl, kQ _ _ ⟨by simp, rfl⟩⟩) ?_ (fun H' h => nomatch h.1)
      rintro _ ⟨_, rfl⟩
      exact ⟨.non, rfl, fun dd nd => k2 no _ dd s1 nd⟩
end
end G

set_option Elab.async false
set_option linter.all false
set_option maxRecDepth 100000
set_option maxHeartbeats 4000000
namespace G
open PySem PySem.Spec PyProof.Rows L2
def spPairReadL : Sp := fun vs H Q _ => ∃ z : Str, vs = [.str z] ∧ z.length ≤ 1000000 ∧ (∀ c ∈ TL.tl z, c < 128) ∧
  (∀ f, pairZ z = some f → ∀ (p : Addr) H', Same H H' → H' p = some (.tup [.int f.1, .int f.2]) → Q (.ref p) H') ∧ (pairZ z = none → ∀ H', Same H H' → Q .non H')
theorem pairZ_not2 {z : Str} (h : (Txt.split z ".").length ≠ 2) : pairZ z = none := by
  unfold pairZ
  split
  · rename_i a b e
    have := congrArg List.length e
    rw [List.length_map] at this
    exact absurd this h
  · rfl
theorem pairZ_two {z p q : Str} (h : Txt.split z "." = [p, q]) : pairZ z = match wholeZ p, wholeZ q with | some a, some b => some (a, b) | _, _ => none := by
  unfold pairZ
  rw [h]
  cases hp : wholeZ p <;> cases hq : wholeZ q <;> simp [hp, hq]
theorem ovI_non (o : Option Int) : decide (ovI o = V.non) = o.isNone := by
  cases o with
  | none => exact decide_eq_true rfl
  | some n => exact decide_eq_false fun e => nomatch e
section
variable {P : Program} {w : World} {K : PySem.W.Frag} {mg : Str → Option Value} {base : Heap}
theorem c_pair_read (T : Txt K mg) (C__law_whole : CalG P w K mg base 1 "_law_whole" ["_law_text"] spWholeL) (D : DefAt K mg "_law_pair_read" s__law_pair_read ["_law_text"]) :
    CalG P w K mg base 2 "_law_pair_read" ["_law_text"] spPairReadL := by
  refine calOk D sc__law_pair_read (fun xs H Q E h => ?_) (fun f cdv A out s H xs Q E hgd hr h => ?_)
  · obtain ⟨z, rfl, _⟩ := h
    rfl
  · obtain ⟨z, rfl, hz, ha, k1, k2⟩ := h
    have nd := sc__law_pair_read.nd
    refine ⟨_, (pss_cons (ps_set (i := 1) nd rfl (.inl rfl) (pe_split (pv 0) pe_str))
      (pss_cons (ps_if (PW.pt (pw_or (pt_cmpR op_ne (pe_callB call_len_seq (by rfl) T.len (by decide +kernel) (pa_cons (pv 1) pa_nil)) pe_int (nomark _)) (pw_or (pt_cmpR op_isN (pe_k C__law_whole hgd hr (by decide) rfl (pa_cons (pe_ix ix_list (pv 1) pe_int (fun _ _ => rfl)) pa_nil)) pe_non (nomark _)) (pw_or1 (pt_cmpR op_isN (pe_k C__law_whole hgd hr (by decide) rfl (pa_cons (pe_ix ix_list (pv 1) pe_int (fun _ _ => rfl)) pa_nil)) pe_non (nomark _)))))) (pss_one (ps_ret pe_non)) pss_nil)
      (pss_one (ps_ret (pe_tup (pa_cons (pe_k C__law_whole hgd hr (by decide) rfl (pa_cons (pe_ix ix_list (pv 1) pe_int (fun _ _ => rfl)) pa_nil)) (pa_cons (pe_k C__law_whole hgd hr (by decide) rfl (pa_cons (pe_ix ix_list (pv 1) pe_int (fun _ _ => rfl)) pa_nil)) pa_nil))))))), ?_⟩
    have sz : sizeLine = 16777216 := sizeLine_eq
    have sp := PyProof.Rows.split_le z "."
    have px := fun p (hp : p ∈ Txt.split z ".") => part_sub (z := z) dot_one.1 dot_one.2.1 hp
    refine a_set (fun v H' => ∃ a, v = .ref a ∧ Same H H' ∧ H' a = some (.lst ((Txt.split z ".").map V.str))) (fun Q' kQ => ⟨_, rfl, ⟨_, rfl⟩, _, _, rfl, rfl, dot_one.2.2, (by omega), fun a np => kQ _ _ ⟨a, rfl, same_new np, upd_same⟩⟩) ?_
    rintro _ H1 ⟨a, rfl, s1, ha1⟩
    refine a_if (fun b H' => b = (pairZ z).isNone ∧ Same H1 H') (fun Q' kQ => ?_) ?_ ?_
    · refine ⟨_, rfl, _, _, rfl, .inl (SqL.of ha1), rfl, _, rfl, ite2 (fun h1 => kQ _ _ ⟨?_, Same.refl H1⟩) (fun h1 => ?_)⟩
      · have n2 : (Txt.split z ".").length ≠ 2 := by
          intro e
          simp [e] at h1
        rw [pairZ_not2 n2] <;> rfl
      · have n2 : (Txt.split z ".").length = 2 := by
          simp at h1
          omega
        obtain ⟨p, q, hpq⟩ : ∃ p q, Txt.split z "." = [p, q] := by
          cases e : Txt.split z "." with
          | nil => rw [e] at n2; cases n2
          | cons p r =>
            cases r with
            | nil => rw [e] at n2; cases n2
            | cons q r =>
              cases r with
              | nil => exact ⟨p, q, rfl⟩
              | cons _ _ => rw [e] at n2; simp at n2
        have hp := px p (by rw [hpq]; exact List.mem_cons_self)
        have hq := px q (by rw [hpq]; exact List.mem_cons_of_mem _ List.mem_cons_self)
        have e2 := pairZ_two hpq
        rw [hpq] at ha1
        refine ⟨_, rfl, a, [.str p, .str q], 0, _, rfl, rfl, SqL.of ha1, rfl, p, rfl, (by omega), (fun c hc => ha c (hp.2 c hc)), fun H2 s2 => ?_⟩
        refine ⟨rfl, _, congrArg V.bl (ovI_non _), ite2 (fun h2 => kQ _ _ ⟨?_, s2⟩) (fun h2 => ?_)⟩
        · rw [e2]
          cases e : wholeZ p with
          | none => rfl
          | some n => rw [e] at h2; cases h2
        · refine ⟨_, rfl, a, [.str p, .str q], 1, _, rfl, rfl, SqL.of (s2 _ _ ha1), rfl, q, rfl, (by omega), (fun c hc => ha c (hq.2 c hc)), fun H3 s3 => ?_⟩
          refine ⟨rfl, _, congrArg V.bl (ovI_non _), kQ _ _ ⟨?_, s2.trans s3⟩⟩
          rw [e2]
          cases e : wholeZ p with
          | none => rw [e] at h2; exact absurd rfl h2
          | some n => cases wholeZ q <;> rfl
    · rintro H2 ⟨h2, s2⟩
      exact k2 (by simpa using h2.symm) _ (s1.trans s2)
    · rintro H2 ⟨h2, s2⟩
      cases hf : pairZ z with
      | none => rw [hf] at h2; cases h2
      | some g =>
        obtain ⟨_, hb, hs⟩ := pair_some hf
        have hp := px (textZ g.1) (by rw [hs]; exact List.mem_cons_self)
        have hq := px (textZ g.2) (by rw [hs]; exact List.mem_cons_of_mem _ List.mem_cons_self)
        rw [hs] at ha1
        refine go_nx ?_
        refine ⟨_, rfl, a, [.str (textZ g.1), .str (textZ g.2)], 0, _, rfl, rfl, SqL.of (s2 _ _ ha1), rfl, _, rfl, (by omega), (fun c hc => ha c (hp.2 c hc)), fun H3 s3 => ?_⟩
        refine ⟨_, rfl, a, [.str (textZ g.1), .str (textZ g.2)], 1, _, rfl, rfl, SqL.of ((s2.trans s3) _ _ ha1), rfl, _, rfl, (by omega), (fun c hc => ha c (hq.2 c hc)), fun H4 s4 => ?_⟩
        rw [whole_text hb.1 hb.2.1, whole_text hb.2.2.1 hb.2.2.2]
        exact ⟨(by show 2 ≤ sizeLine; decide), fun r nr => k1 g hf r _ ((((s1.trans s2).trans s3).trans s4).trans (same_new nr)) upd_same⟩
end
end G

set_option Elab.async false
set_option linter.all false
set_option maxRecDepth 100000
set_option maxHeartbeats 4000000
namespace G
open PySem PySem.Spec PyProof.Rows L2
/-- the text is that of a row -/
def RowIs (z : Str) (fs : List (Int × Int)) : Prop := (z = "-" ∧ fs = []) ∨ (z ≠ "-" ∧ (Txt.split z " ").map pairZ = fs.map some ∧ rowB (rowD fs) = true)
def spReadRow (C : Addr) : Sp := fun vs H Q E => ∃ (x : V) (d : PyData), vs = [x] ∧ Dx H x d ∧ (∀ z, d = .str z → z.length ≤ 1000000) ∧
  (∀ z fs, d = .str z → RowIs z fs → ∀ (v : V) H', Same H H' → RowAt H' v fs → Q v H') ∧ ((∀ z fs, d = .str z → ¬ RowIs z fs) → ParseOut C H E)
theorem blank_one : TL.tl (" " : Str) ≠ [] ∧ (" " : Str).cps.all (· < 256) = true ∧ ((" " : Str).length == 0) = false := by decide +kernel
def optD : Option (Int × Int) → PyData
  | none => .none
  | some f => formD f
def spRowReadL : Sp := fun vs H Q _ => ∃ z : Str, vs = [.str z] ∧ z.length ≤ 1000000 ∧ (∀ c ∈ TL.tl z, c < 128) ∧
  (∀ fs, RowIs z fs → ∀ (v : V) H', Same H H' → RowAt H' v fs → Q v H') ∧ ((∀ fs, ¬ RowIs z fs) → ∀ H', Same H H' → Q .non H')
theorem opt_flat (os : List (Option (Int × Int))) : PyData.canLayAll0 (os.map optD) = true ∧ PyData.depthAll (os.map optD) ≤ 1 ∧ PyData.hasDictAll (os.map optD) = false := by
  induction os with
  | nil => simp [PyData.canLayAll0, PyData.depthAll, PyData.hasDictAll]
  | cons o r ih =>
    obtain ⟨a, b, c⟩ := ih
    cases o with
    | none => simp [optD, PyData.canLayAll0, PyData.depthAll, PyData.hasDictAll, PyData.canLay0, PyData.depth, PyData.hasDict, a, b, c]
    | some f =>
      simp [optD, formD, PyData.canLayAll0, PyData.depthAll, PyData.hasDictAll, PyData.canLay0, PyData.depth, PyData.hasDict, a, c]
      omega
theorem shapedO (os : List (Option (Int × Int))) : SeqAt.shaped (.list (os.map optD)) = true := by
  obtain ⟨q1, q2, _⟩ := opt_flat os
  show (PyData.canLay0 (.list _) && decide (PyData.depth (.list _) ≤ 64)) = true
  rw [Bool.and_eq_true_iff]
  exact ⟨by simp only [PyData.canLay0]; exact q1, decide_eq_true (by simp only [PyData.depth]; omega)⟩
theorem noDictO (os : List (Option (Int × Int))) : (PyData.list (os.map optD)).hasDict = false := by
  simp only [PyData.hasDict]
  exact (opt_flat os).2.2
theorem none_any (os : List (Option (Int × Int))) : ((os.map optD).any fun z => PyData.eqv z .none) = os.any Option.isNone := by
  induction os with
  | nil => rfl
  | cons o r ih =>
    rw [List.map_cons, List.any_cons, List.any_cons, ih]
    congr 1
    cases o with
    | none => rfl
    | some f => simp [optD, formD, PyData.eqv]
theorem all_some {os : List (Option (Int × Int))} (h : os.any Option.isNone = false) : ∃ fs : List (Int × Int), os = fs.map some := by
  induction os with
  | nil => exact ⟨[], rfl⟩
  | cons o r ih =>
    rw [List.any_cons, Bool.or_eq_false_iff] at h
    obtain ⟨fs, rfl⟩ := ih h.2
    cases o with
    | none => cases h.1
    | some f => exact ⟨f :: fs, rfl⟩
theorem some_opt (fs : List (Int × Int)) : (fs.map some).map optD = fs.map formD := by
  rw [List.map_map]
  rfl
theorem DxAll.snoc {H : Hp} {y : V} {d : PyData} (h : Dx H y d) : ∀ {xs : List V} {ds : List PyData}, DxAll H xs ds → DxAll H (xs ++ [y]) (ds ++ [d])
  | _, _, .nil => .cons h .nil
  | _, _, .cons a b => .cons a (DxAll.snoc h b)
theorem DxAll.lenO {H : Hp} : ∀ {xs : List V} {ds : List PyData}, DxAll H xs ds → xs.length = ds.length
  | _, _, .nil => rfl
  | _, _, .cons _ b => congrArg (· + 1) (DxAll.lenO b)
def badF (f : Int × Int) : Bool := decide (min f.1 f.2 < 0) || decide (7 < max f.1 f.2)
theorem bad_side {f : Int × Int} (h : badF f = false) : Side 7 f := by
  unfold badF at h
  rw [Bool.or_eq_false_iff, decide_eq_false_iff_not, decide_eq_false_iff_not] at h
  unfold Side
  omega
theorem side_bad {f : Int × Int} (h : Side 7 f) : badF f = false := by
  unfold Side at h
  unfold badF
  rw [Bool.or_eq_false_iff, decide_eq_false_iff_not, decide_eq_false_iff_not]
  omega
theorem forms_dp {K : PySem.W.Frag} {H : Hp} : ∀ {xs : List V} {fs : List (Int × Int)}, FormsAt H xs fs → DpAll K H xs (fs.map formD)
  | _, _, .nil => .nil
  | _, _, .cons a b => .cons (.tup (SqT.of a) (.cons (.int _) (.cons (.int _) .nil))) (forms_dp b)
open TL in
theorem split_ne (z : Str) : Txt.split z " " ≠ [] := by
  have ne : ∀ (S l : List Nat) (k : Nat) (acc : List Nat), spl S k acc l ≠ [] := by
    intro S l
    induction l with
    | nil => intro k acc; rw [spl_nil]; simp
    | cons c r ih =>
      intro k acc
      cases k with
      | zero =>
        by_cases q : pre S (c :: r) = true
        · rw [spl_hit q]
          simp
        · have e : spl S 0 acc (c :: r) = spl S 0 (acc ++ [c]) r := if_neg q
          rw [e]
          exact ih _ _
      | succ k => exact ih _ _
  intro e
  have := split_spl z " " blank_one.1 (kind_ok blank_one.2.1)
  rw [e] at this
  exact ne _ _ _ _ this.symm
theorem cut_zero_ne {f0 : List (Int × Int)} (h : cutF (f0 ++ [(0, 0)]) = f0 ++ [(0, 0)]) : False := by
  rw [cutF_zero] at h
  have a := (cutF_sub f0).1
  rw [h, List.length_append] at a
  simp at a
  omega
section
variable {P : Program} {w : World} {K : PySem.W.Frag} {mg : Str → Option Value} {base : Heap}
theorem opt_put {H : Hp} {D : Addr} {ys zs : List V} (hD : H D = some (.lst ys)) : ∀ {xs : List V} (os : List (Option (Int × Int))), DxAll H xs (os.map optD) → DxAll (upd H D (.lst zs)) xs (os.map optD)
  | [], [], _ => .nil
  | x :: xs, o :: os, .cons a b => by
    refine .cons ?_ (opt_put hD os b)
    cases o with
    | none =>
      have a : Dx H x .none := a
      cases a
      exact .non
    | some f =>
      have a : Dx H x (formD f) := a
      obtain ⟨p, rfl⟩ : ∃ p, x = .ref p := by
        cases a
        exact ⟨_, rfl⟩
      have hp := a.form
      have ne : p ≠ D := fun e => by
        rw [e, hD] at hp
        cases hp
      exact .tup (by rw [upd_ne ne]; exact hp) (.cons (.int _) (.cons (.int _) .nil))
theorem c_row_read (T : Txt K mg) (C__law_pair_read : CalG P w K mg base 2 "_law_pair_read" ["_law_text"] spPairReadL) (D : DefAt K mg "_law_row_read" s__law_row_read ["_law_text"]) :
    CalG P w K mg base 3 "_law_row_read" ["_law_text"] spRowReadL := by
  refine calOk D sc__law_row_read (fun xs H Q E h => ?_) (fun f cdv A out s H xs Q E hgd hr h => ?_)
  · obtain ⟨z, rfl, _⟩ := h
    rfl
  · obtain ⟨z, rfl, hz, ha, k1, k2⟩ := h
    have nd := sc__law_row_read.nd
    refine ⟨_, (pss_cons (ps_if (pt_cmpR op_eq (pv 0) pe_str (nomark _)) (pss_one (ps_ret (pe_tup pa_nil))) pss_nil)
      (pss_cons (ps_setLc (i := 1) (own := [("_law_word", 2)]) (g := gName 2) (by rfl) nd rfl rfl (sw_true rfl rfl rfl (by decide +kernel)) (pi_list (pe_split (pv 0) pe_str)) (blkOk_by (own := [("_law_word", 2)]) (N := N__law_row_read) (sc := defScope s__law_row_read) (by decide +kernel)) (fun _ _ _ _ _ => pg_name (i := 2) nd rfl (.inl rfl)) (fun _ _ _ _ _ => pts_nil) (fun _ _ _ _ _ => pe_k C__law_pair_read hgd hr (by decide) rfl (pa_cons (pv 2) pa_nil)))
      (pss_cons (ps_if (PW.pt (pw_or (pt_cmpR (op_inD (hu65 hr)) pe_non (pv 1) rfl) (pw_or (pt_cmpR (op_eqD hr.units) (pe_ix ix_list (pv 1) (pe_un un_neg pe_int) (fun _ _ => rfl)) (pe_tup (pa_cons pe_int (pa_cons pe_int pa_nil))) (nomark _)) (pw_or1 (pt_cmpR op_gt (pe_callB call_len_seq (by rfl) T.len (by decide +kernel) (pa_cons (pv 1) pa_nil)) pe_int (nomark _)))))) (pss_one (ps_ret pe_non)) pss_nil)
      (pss_one (ps_ret (pe_ifExp (pt_cmpR (op_eqD hr.units) (pe_lc (own := [("_law_form", 3)]) (g := gName 3) (by rfl) nd (pi_list (pv 1)) (blkOk_by (own := [("_law_form", 3)]) (N := N__law_row_read) (sc := defScope s__law_row_read) (by decide +kernel)) (fun _ _ _ _ _ => pg_name (i := 3) nd rfl (.inl rfl)) (fun _ _ _ _ _ => pts_one (PW.pt (pw_or (pt_cmpR op_lt (pe_callB (cr_min2T rfl hr.units) (by rfl) T.min (by decide +kernel) (pa_cons (pv 3) pa_nil)) pe_int (nomark _)) (pw_or1 (pt_cmpR op_gt (pe_callB (cr_max2T rfl hr.units) (by rfl) T.max (by decide +kernel) (pa_cons (pv 3) pa_nil)) pe_int (nomark _)))))) (fun _ _ _ _ _ => pv 3)) (pe_lst pa_nil) (nomark _)) (pe_callTy call_tuple_of (by rfl) T.tuple (by decide +kernel) (pa_cons (pv 1) pa_nil)) pe_non)))))), ?_⟩
    have sz : sizeLine = 16777216 := sizeLine_eq
    have sp := PyProof.Rows.split_le z " "
    have px := fun p (hp : p ∈ Txt.split z " ") => part_sub (z := z) blank_one.1 blank_one.2.1 hp
    refine a_if (fun b H' => b = decide (z = "-") ∧ H = H') (fun Q' kQ => ?_) ?_ ?_
    · refine ⟨_, rfl, rfl, _, rfl, kQ _ _ ⟨?_, rfl⟩⟩
      by_cases q : z = "-"
      · rw [decide_eq_true q, q]
        exact decide_eq_true rfl
      · rw [decide_eq_false q]
        exact decide_eq_false fun e => q (by injection e)
    · rintro _ ⟨h2, rfl⟩
      have ez : z = "-" := of_decide_eq_true h2.symm
      exact ⟨(by show 0 ≤ sizeLine; decide), fun q nq => k1 [] (.inl ⟨ez, rfl⟩) _ _ (same_new nq) ⟨q, [], rfl, upd_same, .nil⟩⟩
    · rintro _ ⟨h2, rfl⟩
      have ez : z ≠ "-" := of_decide_eq_false h2.symm
      refine go_nx ?_
      refine a_set (fun v H' => ∃ L ys, v = .ref L ∧ Same H H' ∧ H' L = some (.lst ys) ∧ DxAll H' ys (((Txt.split z " ").map pairZ).map optD)) (fun Q' kQ => ?_) ?_
      · refine ⟨_, rfl, ⟨_, rfl⟩, _, _, rfl, rfl, blank_one.2.2, (by omega), fun a np => ?_⟩
        have s1 := same_new (H := H) (o := .lst ((Txt.split z " ").map V.str)) np
        refine ⟨a, rfl, ⟨_, SqL.of upd_same⟩, fun Dl nD => ?_⟩
        refine lc_list (K := K) (a := a) (xs := (Txt.split z " ").map V.str) (fun i H' => ∃ ys, Same (upd H a (.lst ((Txt.split z " ").map V.str))) H' ∧ H' Dl = some (.lst ys) ∧ DxAll H' ys ((((Txt.split z " ").take i).map pairZ).map optD)) ?_ ?_ ?_ ?_
        · exact ⟨[], same_new nD, upd_same, .nil⟩
        · rintro i H' _ ⟨_, s2, _⟩
          exact SqL.of (s2 _ _ upd_same)
        · rintro i y H2 hi ⟨ys, s2, hD, hF⟩
          rw [List.getElem?_map] at hi
          obtain ⟨p, hp, rfl⟩ := Option.map_eq_some_iff.mp hi
          have hmem := List.mem_of_getElem? hp
          have ly : ys.length < sizeLine := by
            have l1 := hF.lenO
            rw [List.length_map, List.length_map, List.length_take] at l1
            have := Nat.min_le_right i (Txt.split z " ").length
            omega
          have put : ∀ {H3 : Hp} {y : V}, Same H2 H3 → Dx H3 y (optD (pairZ p)) → ∃ zs, Same (upd H a (.lst ((Txt.split z " ").map V.str))) (upd H3 Dl (.lst (ys ++ [y]))) ∧ upd H3 Dl (.lst (ys ++ [y])) Dl = some (.lst zs) ∧ DxAll (upd H3 Dl (.lst (ys ++ [y]))) zs ((((Txt.split z " ").take (i + 1)).map pairZ).map optD) := by
            intro H3 y s3 hy
            refine ⟨ys ++ [y], same_put (s2.trans s3) nD, upd_same, ?_⟩
            have e : (((Txt.split z " ").take i).map pairZ ++ [pairZ p]).map optD = (((Txt.split z " ").take i).map pairZ).map optD ++ [optD (pairZ p)] := by rw [List.map_append] <;> rfl
            rw [take_one hp, List.map_append, show [p].map pairZ = [pairZ p] from rfl]
            refine opt_put (s3 _ _ hD) _ ?_
            rw [e]
            exact (hF.grow s3).snoc hy
          refine ⟨rfl, ?_⟩
          refine ⟨_, rfl, p, rfl, (by have := (px p hmem).1; omega), (fun c hc => ha c ((px p hmem).2 c hc)), ?_, ?_⟩
          · intro f hf q H3 s3 hq
            exact ⟨ys, s3 _ _ hD, ly, put s3 (by rw [hf]; exact .tup hq (.cons (.int _) (.cons (.int _) .nil)))⟩
          · intro hf H3 s3
            exact ⟨ys, s3 _ _ hD, ly, put s3 (by rw [hf]; exact .non)⟩
        · rintro H2 ⟨ys, s2, hD, hF⟩
          rw [List.length_map, List.take_length] at hF
          exact kQ _ _ ⟨Dl, ys, rfl, s1.trans s2, hD, hF⟩
      rintro _ H1 ⟨L, ys, rfl, s1, hL, hF⟩
      have hX : Dx H1 (.ref L) (.list (((Txt.split z " ").map pairZ).map optD)) := .lst hL hF
      obtain ⟨gs0, gl, egs⟩ : ∃ gs0 gl, (Txt.split z " ").map pairZ = gs0 ++ [gl] := by
        rcases List.eq_nil_or_concat ((Txt.split z " ").map pairZ) with e | ⟨a, b, e⟩
        · exact absurd (List.map_eq_nil_iff.mp e) (split_ne z)
        · exact ⟨a, b, by rw [e, List.concat_eq_append]⟩
      generalize hos : (Txt.split z " ").map pairZ = os at hF hX egs
      have lo : os.length = (Txt.split z " ").length := by rw [← hos, List.length_map]
      have ly := hF.lenO
      rw [List.length_map] at ly
      refine a_if (fun b H' => (b = true → ∀ fs, ¬ RowIs z fs) ∧ (b = false → ∃ fs, os = fs.map some ∧ fs.length ≤ 200 ∧ ∃ f0 f, fs = f0 ++ [f] ∧ f ≠ (0, 0)) ∧ Same H1 H') (fun Q' kQ => ?_) ?_ ?_
      · refine ⟨_, rfl, .none, _, .non, hX.dp (noDictO os), (by decide +kernel), shapedO os, _, congrArg V.bl (none_any os), ite2 (fun h1 => kQ _ _ ⟨fun _ fs => ?_, (fun e => Bool.noConfusion e), Same.refl H1⟩) (fun h1 => ?_)⟩
        · rintro (⟨e, _⟩ | ⟨_, e, _⟩)
          · exact ez e
          · rw [hos] at e
            rw [e] at h1
            simp at h1
        · obtain ⟨fs, rfl⟩ := all_some (Bool.eq_false_iff.mpr h1)
          obtain ⟨f0, f, rfl⟩ : ∃ f0 f, fs = f0 ++ [f] := by
            rcases List.eq_nil_or_concat fs with e | ⟨a, b, e⟩
            · subst e
              simp at egs
            · exact ⟨a, b, by rw [e, List.concat_eq_append]⟩
          obtain ⟨ys0, y, rfl⟩ : ∃ ys0 y, ys = ys0 ++ [y] := by
            rcases List.eq_nil_or_concat ys with e | ⟨a, b, e⟩
            · subst e
              simp at ly
            · exact ⟨a, b, by rw [e, List.concat_eq_append]⟩
          have hlen : ys0.length = f0.length := by simpa using ly
          obtain ⟨dy, e1, hy⟩ := hF.get ys0.length y (by simp)
          have edy : dy = formD f := by
            rw [some_opt, List.map_append, hlen, ← List.length_map (f := formD)] at e1
            simp at e1
            exact e1.symm
          subst edy
          refine ⟨_, rfl, _, rfl, _, _, _, _, rfl, rfl, SqL.of hL, atI_last ys0 y, (by show 2 ≤ sizeLine; decide), fun p2 np2 => ?_⟩
          have s2 := same_new (H := H1) (o := .tup [.int 0, .int 0]) np2
          refine ⟨formD f, zeroD, (hy.grow s2).dp (noDictF f), .tup (SqT.of upd_same) (.cons (.int 0) (.cons (.int 0) .nil)), shapedF f, (by decide +kernel), _, congrArg V.bl (formD_eqv f), ite2 (fun h2 => kQ _ _ ⟨fun _ fs => ?_, (fun e => Bool.noConfusion e), s2⟩) (fun h2 => ?_)⟩
          · have f00 : f = (0, 0) := of_decide_eq_true h2
            rintro (⟨e, _⟩ | ⟨_, e, hb⟩)
            · exact ez e
            · rw [hos] at e
              have : f0 ++ [f] = fs := List.map_inj_right (fun _ _ e => Option.some.inj e) |>.mp e
              subst this
              obtain ⟨gs, eg, _, _, hc⟩ := rowB_out hb
              have := rowD_inj eg
              subst this
              rw [f00] at hc
              exact cut_zero_ne hc
          · have fne : f ≠ (0, 0) := of_decide_eq_false (Bool.eq_false_iff.mpr h2)
            refine ⟨_, rfl, _, _, rfl, .inl (SqL.of (s2 _ _ hL)), _, _, rfl, rfl, _, rfl, kQ _ _ ⟨fun h3 fs => ?_, fun h3 => ⟨f0 ++ [f], rfl, ?_, f0, f, rfl, fne⟩, s2⟩⟩
            · have l200 := of_decide_eq_true h3
              rintro (⟨e, _⟩ | ⟨_, e, hb⟩)
              · exact ez e
              · rw [hos] at e
                have : f0 ++ [f] = fs := List.map_inj_right (fun _ _ e => Option.some.inj e) |>.mp e
                subst this
                obtain ⟨gs, eg, hl, _, _⟩ := rowB_out hb
                have := rowD_inj eg
                subst this
                rw [List.length_map] at ly
                omega
            · have l200 := of_decide_eq_false h3
              rw [List.length_map] at ly
              omega
      · rintro H2 ⟨h2, _, s2⟩
        exact k2 (h2 rfl) _ (s1.trans s2)
      · rintro H2 ⟨_, h2, s2⟩
        obtain ⟨fs, rfl, hl, f0, f, ef, fne⟩ := h2 rfl
        refine go_nx ?_
        have hL2 := s2 _ _ hL
        rw [some_opt] at hF
        have hG : FormsAt H2 ys fs := FormsAt.of fs (hF.grow s2)
        rw [List.length_map] at ly
        refine ⟨_, rfl, L, rfl, ⟨_, SqL.of hL2⟩, fun Dl nD => ?_⟩
        refine lc_list (K := K) (a := L) (xs := ys) (fun i H' => ∃ zs, Same H2 H' ∧ H' Dl = some (.lst zs) ∧ FormsAt H' zs ((fs.take i).filter badF)) ?_ ?_ ?_ ?_
        · exact ⟨[], same_new nD, upd_same, .nil⟩
        · rintro i H' _ ⟨_, s3, _⟩
          exact SqL.of (s3 _ _ hL2)
        · rintro i y H3 hi ⟨zs, s3, hD, hB⟩
          obtain ⟨p, g, rfl, hg, hp⟩ := hG.get i y hi
          have hp3 := s3 _ _ hp
          have lz : zs.length < sizeLine := by
            rw [hB.len]
            have q1 := List.length_filter_le badF (fs.take i)
            have q2 : (fs.take i).length ≤ fs.length := by rw [List.length_take]; exact Nat.min_le_right _ _
            exact small1000 (by omega)
          have yes : badF g = true → ((fs.take (i + 1)).filter badF) = (fs.take i).filter badF ++ [g] := fun q => by
            rw [take_one hg, List.filter_append]
            simp [q]
          have no : badF g = false → ((fs.take (i + 1)).filter badF) = (fs.take i).filter badF := fun q => by
            rw [take_one hg, List.filter_append]
            simp [q]
          have put : badF g = true → ∃ ws, Same H2 (upd H3 Dl (.lst (zs ++ [.ref p]))) ∧ upd H3 Dl (.lst (zs ++ [.ref p])) Dl = some (.lst ws) ∧ FormsAt (upd H3 Dl (.lst (zs ++ [.ref p]))) ws ((fs.take (i + 1)).filter badF) := fun q =>
            ⟨zs ++ [.ref p], same_put s3 nD, upd_same, by rw [yes q]; exact (hB.append (.cons hp3 .nil)).keep (tups_put hD)⟩
          refine ⟨rfl, ?_⟩
          refine ⟨_, rfl, p, g.1, g.2, rfl, hp3, _, _, rfl, rfl, _, rfl, ite2 (fun q1 => ?_) (fun q1 => ?_)⟩
          · exact ⟨_, rfl, zs, hD, lz, put (by unfold badF; rw [q1] <;> rfl)⟩
          · refine ⟨_, rfl, p, g.1, g.2, rfl, hp3, _, _, rfl, rfl, _, rfl, ite2 (fun q2 => ?_) (fun q2 => ?_)⟩
            · exact ⟨_, rfl, zs, hD, lz, put (by unfold badF; rw [q2, Bool.or_true])⟩
            · exact ⟨zs, s3, hD, by rw [no (by unfold badF; rw [Bool.eq_false_iff.mpr q1, Bool.eq_false_iff.mpr q2] <;> rfl)]; exact hB⟩
        · rintro H3 ⟨zs, s3, hD, hB⟩
          rw [ly, List.take_length] at hB
          refine ⟨(by show 0 ≤ sizeLine; decide), fun p np => ?_⟩
          have neDp : Dl ≠ p := ne_of_none hD np
          have s4 := same_new (H := H3) (o := .lst []) np
          have hB4 : FormsAt (upd H3 p (.lst [])) zs (fs.filter badF) := hB.keep fun q xs z => s4 _ _ z
          refine ⟨.list ((fs.filter badF).map formD), .list [], .lst (SqL.of (s4 _ _ hD)) (forms_dp hB4), .lst (SqL.of upd_same) .nil, shapedL _, (by decide +kernel), _, congrArg V.bl (eqv_nil _), ite2 (fun h3 => ?_) (fun h3 => ?_)⟩
          · have emp : fs.filter badF = [] := by
              cases e : fs.filter badF with
              | nil => rfl
              | cons _ _ => rw [e] at h3; cases h3
            have side : ∀ g ∈ fs, Side 7 g := fun g hg => by
              have nb : ¬ badF g = true := fun q => by
                have : g ∈ fs.filter badF := List.mem_filter.mpr ⟨hg, q⟩
                rw [emp] at this
                cases this
              exact bad_side (Bool.eq_false_iff.mpr nb)
            have hb : rowB (rowD fs) = true := rowB_D side hl (by rw [ef]; exact cutF_last f0 fne)
            have hG4 := hG.keep fun q xs z => (s3.trans s4) _ _ z
            exact ⟨_, rfl, L, ys, rfl, .inl ⟨SqL.of ((s3.trans s4) _ _ hL2), fun q nq => k1 fs (.inr ⟨ez, hos, hb⟩) _ _ ((((s1.trans s2).trans s3).trans s4).trans (same_new nq)) ⟨q, ys, rfl, upd_same, hG4.keep fun b xs z => same_new nq _ _ z⟩⟩⟩
          · refine k2 (fun gs => ?_) _ (((s1.trans s2).trans s3).trans s4)
            rintro (⟨e, _⟩ | ⟨_, e, hb⟩)
            · exact ez e
            · rw [hos] at e
              have : fs = gs := List.map_inj_right (fun _ _ e => Option.some.inj e) |>.mp e
              subst this
              obtain ⟨gs, eg, _, sd, _⟩ := rowB_out hb
              have := rowD_inj eg
              subst this
              refine h3 ?_
              have : fs.filter badF = [] := List.filter_eq_nil_iff.mpr fun g hg q => by
                rw [side_bad (sd g hg)] at q
                cases q
              rw [this] <;> rfl
end
end G

set_option Elab.async false
set_option linter.all false
set_option maxRecDepth 100000
set_option maxHeartbeats 4000000
namespace G
open PySem PySem.Spec PyProof.Rows L2
def spPickS : Sp := fun vs H Q _ => ∃ (d : Addr) (z : Str), vs = [.ref d, .str z] ∧ DiceAt H d ∧ 0 < z.length ∧ z.length ≤ 1000 ∧ ∀ (c : Nat) H', c ∈ TL.tl z → Mv d H H' → Q (.str ⟨#[c]⟩) H'
def spBent : Sp := fun vs H Q _ => ∃ (d : Addr) (z : Str), vs = [.ref d, .str z] ∧ DiceAt H d ∧ z.length ≤ 3000 ∧ (∀ c ∈ TL.tl z, c < 128) ∧
  ∀ (z' : Str) H', z'.length ≤ z.length + 1 → (∀ c ∈ TL.tl z', c < 128) → Mv d H H' → Q (.str z') H'
section
variable {P : Program} {w : World} {K : PySem.W.Frag} {mg : Str → Option Value} {base : Heap}
theorem c_pickS (T : Txt K mg) (C__law_roll : CalG P w K mg base 1 "_law_roll" ["_law_dice_here", "_law_total"] spRoll) (D : DefAt K mg "_law_pick" s__law_pick ["_law_dice_here", "_law_items"]) :
    CalG P w K mg base 2 "_law_pick" ["_law_dice_here", "_law_items"] spPickS := by
  refine calOk D sc__law_pick (fun xs H Q E h => ?_) (fun f cdv A out s H xs Q E hgd hr h => ?_)
  · obtain ⟨d, z, rfl, _⟩ := h
    rfl
  · obtain ⟨d, z, rfl, hd, z0, z1, k⟩ := h
    have nd := sc__law_pick.nd
    refine ⟨_, (pss_one (ps_ret (pe_ix ix_str (pv 1) (pe_k C__law_roll hgd hr (by decide) rfl (pa_cons (pv 0) (pa_cons (pe_callB call_len_str (by rfl) T.len (by decide +kernel) (pa_cons (pv 1) pa_nil)) pa_nil))) (fun _ _ => rfl)))), ?_⟩
    have sz : sizeLine = 16777216 := sizeLine_eq
    refine ⟨_, rfl, _, rfl, _, rfl, _, rfl, (by omega), d, _, rfl, hd, (by omega), log_small (by omega) (by omega), fun r1 H1 a1 b1 m1 f1 => ?_⟩
    obtain ⟨j, rfl⟩ : ∃ j : Nat, r1 = (j : Int) := ⟨r1.toNat, by omega⟩
    have hj : j < (TL.tl z).length := by
      rw [← TL.len_tl]
      omega
    obtain ⟨c, hc⟩ : ∃ c, z.cps.toList[j]? = some c := ⟨_, List.getElem?_eq_getElem hj⟩
    exact ⟨_, _, _, rfl, rfl, (by omega), atI_nat hc, k c H1 (List.mem_of_getElem? hc) m1⟩
end
end G

set_option Elab.async false
set_option linter.all false
set_option maxRecDepth 100000
set_option maxHeartbeats 4000000
namespace G
open PySem PySem.Spec PyProof.Rows L2
open TL in
theorem cut_to (z : Str) (k : Nat) (h : k ≤ z.length) : tl (cutS z none (some (k : Int))) = (tl z).take k := by
  show ((z.cps.toList.drop (HT.sIx z.length 0 none)).take (HT.sIx z.length z.length (some (k : Int)) - HT.sIx z.length 0 none)) = _
  rw [HT.sIx_nat, HT.sIx_none, List.drop_zero, Nat.sub_zero, Nat.min_eq_left h] <;> rfl
open TL in
/-- a text cut at two places, with a sign or none between, is no longer than it was by more than one, and has no other signs -/
theorem bent_ok {z m : Str} {k j : Nat} (h : k ≤ z.length) (hj : k ≤ j) (hm : m.length ≤ 1) (ha : ∀ c ∈ tl z, c < 128) (hc : ∀ c ∈ tl m, c < 128) :
    ((cutS z none (some (k : Int)) ++ m) ++ cutS z (some (j : Int)) none).length ≤ z.length + 1 ∧ ∀ c ∈ tl ((cutS z none (some (k : Int)) ++ m) ++ cutS z (some (j : Int)) none), c < 128 := by
  have e : tl ((cutS z none (some (k : Int)) ++ m) ++ cutS z (some (j : Int)) none) = ((tl z).take k ++ tl m) ++ (tl z).drop j := by rw [tl_append, tl_append, cut_to z k h, cut_from]
  constructor
  · rw [len_tl, e, List.length_append, List.length_append, List.length_take, List.length_drop, ← len_tl z, ← len_tl m]
    omega
  · intro c q
    rw [e] at q
    rcases List.mem_append.mp q with q | q
    · rcases List.mem_append.mp q with q | q
      · exact ha c (List.mem_of_mem_take q)
      · exact hc c q
    · exact ha c (List.mem_of_mem_drop q)
open TL in
theorem bent_out {z : Str} {k j : Nat} (h : k ≤ z.length) (hj : k ≤ j) (ha : ∀ c ∈ tl z, c < 128) :
    (cutS z none (some (k : Int)) ++ cutS z (some (j : Int)) none).length ≤ z.length + 1 ∧ ∀ c ∈ tl (cutS z none (some (k : Int)) ++ cutS z (some (j : Int)) none), c < 128 := by
  have := bent_ok (m := Str.empty) h hj (by decide) ha (fun c q => nomatch q)
  have e : cutS z none (some (k : Int)) ++ Str.empty = cutS z none (some (k : Int)) := ext_tl (by rw [tl_append]; exact List.append_nil _)
  rw [e] at this
  exact this
theorem cut_short (z : Str) (lo hi : Option Int) : (cutS z lo hi).length ≤ z.length := by
  have e : (cutS z lo hi).length = ((z.cps.toList.drop (HT.sIx z.length 0 lo)).take (HT.sIx z.length z.length hi - HT.sIx z.length 0 lo)).length := by
    show (List.toArray _).size = _
    rw [List.size_toArray]
  rw [e, List.length_take, List.length_drop, Array.length_toList]
  show min _ (z.length - _) ≤ _
  omega
section
variable {P : Program} {w : World} {K : PySem.W.Frag} {mg : Str → Option Value} {base : Heap}
theorem c_bent (T : Txt K mg) (C__law_roll : CalG P w K mg base 1 "_law_roll" ["_law_dice_here", "_law_total"] spRoll) (C__law_pick : CalG P w K mg base 2 "_law_pick" ["_law_dice_here", "_law_items"] spPickS)
    (D : DefAt K mg "_law_bent" s__law_bent ["_law_dice_here", "_law_text"]) : CalG P w K mg base 3 "_law_bent" ["_law_dice_here", "_law_text"] spBent := by
  refine calOk D sc__law_bent (fun xs H Q E h => ?_) (fun f cdv A out s H xs Q E hgd hr h => ?_)
  · obtain ⟨d, z, rfl, _⟩ := h
    rfl
  · obtain ⟨d, z, rfl, hd, hz, ha, k⟩ := h
    have nd := sc__law_bent.nd
    refine ⟨_, (pss_cons (ps_par3 (i := 2) (j := 3) (l := 4) (by rfl) nd rfl rfl rfl (by decide) (by decide) (by decide) rfl rfl rfl (pa_cons (pe_k C__law_roll hgd hr (by decide) rfl (pa_cons (pv 0) (pa_cons (pe_op op_add (pe_callB call_len_str (by rfl) T.len (by decide +kernel) (pa_cons (pv 1) pa_nil)) pe_int) pa_nil))) (pa_cons (pe_k C__law_pick hgd hr (by decide) rfl (pa_cons (pv 0) (pa_cons pe_str pa_nil))) (pa_cons (pe_k C__law_roll hgd hr (by decide) rfl (pa_cons (pv 0) (pa_cons pe_int pa_nil))) pa_nil))) (by rfl))
      (pss_cons (ps_if (pt_cmpR op_eq (pv 4) pe_int (nomark _)) (pss_one (ps_ret (pe_op op_add_str (pe_op op_add_str (pe_slice sl_str (pv 1) po_none (po_some (pv 2))) (pv 3)) (pe_slice sl_str (pv 1) (po_some (pv 2)) po_none)))) pss_nil)
      (pss_one (ps_ret (pe_ifExp (pt_cmpR op_eq (pv 4) pe_int (nomark _)) (pe_op op_add_str (pe_slice sl_str (pv 1) po_none (po_some (pv 2))) (pe_slice sl_str (pv 1) (po_some (pe_op op_add (pv 2) pe_int)) po_none)) (pe_op op_add_str (pe_op op_add_str (pe_slice sl_str (pv 1) po_none (po_some (pv 2))) (pv 3)) (pe_slice sl_str (pv 1) (po_some (pe_op op_add (pv 2) pe_int)) po_none))))))), ?_⟩
    have sz : sizeLine = 16777216 := sizeLine_eq
    have l3 : Nat.log2 3 < 9000 := by decide +kernel
    have lp : Str.length (" 0178.-a+\n" : Str) = 10 := by decide +kernel
    refine ⟨_, rfl, _, rfl, _, rfl, (by omega), _, _, rfl, rfl, d, _, rfl, hd, (by omega), log_small (by omega) (by omega), fun r1 H1 a1 b1 m1 f1 => ?_⟩
    refine ⟨_, rfl, d, _, rfl, m1.dice, (by omega), (by omega), fun c H2 hc m2 => ?_⟩
    refine ⟨_, rfl, d, 3, rfl, m2.dice, (by decide), l3, fun r3 H3 a3 b3 m3 f3 => ?_⟩
    have c128 : c < 128 := by
      have : ∀ c ∈ TL.tl (" 0178.-a+\n" : Str), c < 128 := by decide +kernel
      exact this c hc
    obtain ⟨j, rfl⟩ : ∃ j : Nat, r1 = (j : Int) := ⟨r1.toNat, by omega⟩
    have m := (m1.trans m2).trans m3
    have hj : j ≤ z.length := by omega
    have one : Str.length (⟨#[c]⟩ : Str) = 1 := rfl
    have oc : ∀ x ∈ TL.tl (⟨#[c]⟩ : Str), x < 128 := fun x hx => by
      have : x = c := by simpa [TL.tl] using hx
      rw [this]
      exact c128
    have s1 := cut_short z none (some (j : Int))
    have s2 := cut_short z (some (j : Int)) none
    have s3 := cut_short z (some ((j + 1 : Nat) : Int)) none
    have ej : ((j : Int) + 1) = ((j + 1 : Nat) : Int) := by omega
    refine ⟨_, _, _, rfl, ?_⟩
    refine go_nx ?_
    refine a_if (fun b H' => H3 = H') (fun Q' kQ => ?_) ?_ ?_
    · exact ⟨_, rfl, rfl, _, rfl, kQ _ _ rfl⟩
    · rintro _ rfl
      obtain ⟨q1, q2⟩ := bent_ok (m := ⟨#[c]⟩) (j := j) hj (Nat.le_refl j) (by omega) ha oc
      refine ⟨_, rfl, _, rfl, _, rfl, z, rfl, (by omega), _, rfl, _, _, rfl, rfl, (by omega), ?_⟩
      exact ⟨_, rfl, _, rfl, _, rfl, z, rfl, (by omega), _, _, rfl, rfl, (by rw [Str.length_append]; omega), k _ _ q1 q2 m⟩
    · rintro _ rfl
      refine go_nx ?_
      refine ⟨_, rfl, rfl, _, rfl, ite2 (fun h1 => ?_) (fun h1 => ?_)⟩
      · obtain ⟨q1, q2⟩ := bent_out (j := j + 1) hj (Nat.le_succ j) ha
        refine ⟨_, rfl, _, rfl, _, rfl, z, rfl, (by omega), ?_⟩
        refine ⟨_, rfl, _, rfl, _, _, rfl, rfl, _, rfl, z, rfl, (by omega), _, _, rfl, rfl, ?_, ?_⟩
        · rw [ej]
          omega
        · rw [ej]
          exact k _ _ q1 q2 m
      · obtain ⟨q1, q2⟩ := bent_ok (m := ⟨#[c]⟩) (j := j + 1) hj (Nat.le_succ j) (by omega) ha oc
        refine ⟨_, rfl, _, rfl, _, rfl, z, rfl, (by omega), _, rfl, _, _, rfl, rfl, (by omega), ?_⟩
        refine ⟨_, rfl, _, rfl, _, _, rfl, rfl, _, rfl, z, rfl, (by omega), _, _, rfl, rfl, ?_, ?_⟩
        · rw [ej, Str.length_append]
          omega
        · rw [ej]
          exact k _ _ q1 q2 m
end
end G

set_option Elab.async false
set_option linter.all false
set_option maxRecDepth 100000
set_option maxHeartbeats 4000000
namespace G
open PySem PySem.Spec PyProof.Rows L2
def spReadPairR : Sp := fun vs H Q _ => ∃ (z : Str) (f : Int × Int), vs = [.str z] ∧ z.length ≤ 1000000 ∧ pairZ z = some f ∧ ∀ (p : Addr) H', Same H H' → H' p = some (.tup [.int f.1, .int f.2]) → Q (.ref p) H'
def spReadRowR : Sp := fun vs H Q _ => ∃ (z : Str) (fs : List (Int × Int)), vs = [.str z] ∧ z.length ≤ 1000000 ∧ RowIs z fs ∧ ∀ (v : V) H', Same H H' → RowAt H' v fs → Q v H'
section
variable {gq : Bool} {P : Program} {w : World} {K : PySem.W.Frag} {mg : Str → Option Value} {base : Heap}
theorem c_read_pair (T : Txt K mg) (C_pair_of : CalQ gq P w K mg base 3 "pair_of" ["text"] spPairOf2) (D : DefAt K mg "read_pair" s_read_pair ["text"]) :
    CalQ gq P w K mg base 4 "read_pair" ["text"] spReadPairR := by
  refine calOkQ D sc_read_pair (fun xs H Q E h => ?_) (fun f cdv A out s H xs Q E hgd hr h => ?_)
  · obtain ⟨z, g, rfl, _⟩ := h
    rfl
  · obtain ⟨z, g, rfl, lz, hz, k⟩ := h
    have nd := sc_read_pair.nd
    refine ⟨_, (pss_cons (ps_set (i := 1) nd rfl (.inl rfl) (pe_ifExp (pt_val (pe_callB call_isi (by rfl) T.isinstance (by decide +kernel) (pa_cons (pv 0) (pa_cons (pe_ty "str" rfl T.str (by decide +kernel)) pa_nil)))) (pe_kq C_pair_of hgd hr (by decide) rfl (pa_cons (pv 0) pa_nil)) pe_non))
      (pss_cons (ps_if (pt_cmpR op_isN (pv 1) pe_non (nomark _)) (pss_one (ps_never)) pss_nil)
      (pss_one (ps_ret (pv 1))))), ?_⟩
    refine a_set (fun v H' => Same H H' ∧ ∃ p, v = .ref p ∧ H' p = some (.tup [.int g.1, .int g.2])) (fun Q' kQ => ?_) ?_
    · refine ⟨_, rfl, _, _, _, _, true, rfl, .ty _, Dx.ty (.str z), kit_ty (by show kitB "str" _ = _; decide +kernel), true, rfl, iteT ?_⟩
      refine ⟨_, rfl, z, rfl, lz, fun f hp p H' s h1 => kQ _ _ ⟨s, p, rfl, ?_⟩, fun hp => by rw [hz] at hp; cases hp⟩
      rw [hz] at hp
      cases hp
      exact h1
    rintro v H1 ⟨s1, p, rfl, h1⟩
    refine a_if (fun b H' => b = false ∧ H1 = H') (fun Q' kQ => ⟨_, rfl, rfl, _, rfl, kQ _ _ ⟨by simp, rfl⟩⟩) (fun H' h => nomatch h.1) ?_
    rintro _ ⟨_, rfl⟩
    refine go_nx ?_
    exact ⟨_, rfl, k p H1 s1 h1⟩
theorem c_read_row (T : Txt K mg) (C_read_pair : CalQ gq P w K mg base 4 "read_pair" ["text"] spReadPairR) (C_is_row : CalQ gq P w K mg base 6 "is_row" ["value"] (spJ rowB)) (D : DefAt K mg "read_row" s_read_row ["text"]) :
    CalQ gq P w K mg base 7 "read_row" ["text"] spReadRowR := by
  refine calOkQ D sc_read_row (fun xs H Q E h => ?_) (fun f cdv A out s H xs Q E hgd hr h => ?_)
  · obtain ⟨z, fs, rfl, _⟩ := h
    rfl
  · obtain ⟨z, gs, rfl, lz, hz, k⟩ := h
    have nd := sc_read_row.nd
    refine ⟨_, (pss_cons (ps_if (pt_not (pt_val (pe_callB call_isi (by rfl) T.isinstance (by decide +kernel) (pa_cons (pv 0) (pa_cons (pe_ty "str" rfl T.str (by decide +kernel)) pa_nil))))) (pss_one (ps_never)) pss_nil)
      (pss_cons (ps_if (pt_cmpR op_eq (pv 0) pe_str (nomark _)) (pss_one (ps_ret (pe_tup pa_nil))) pss_nil)
      (pss_cons (ps_set (i := 1) nd rfl (.inl rfl) (pe_callTy call_tuple_of (by rfl) T.tuple (by decide +kernel) (pa_cons (pe_lc (own := [("part", 2)]) (g := gName 2) (by rfl) nd (pi_list (pe_split (pv 0) pe_str)) (blkOk_by (own := [("part", 2)]) (N := N_read_row) (sc := defScope s_read_row) (by decide +kernel)) (fun _ _ _ _ _ => pg_name (i := 2) nd rfl (.inl rfl)) (fun _ _ _ _ _ => pts_nil) (fun _ _ _ _ _ => pe_kq C_read_pair hgd hr (by decide) rfl (pa_cons (pv 2) pa_nil))) pa_nil)))
      (pss_cons (ps_if (pt_not (pt_val (pe_kq C_is_row hgd hr (by decide) rfl (pa_cons (pv 1) pa_nil)))) (pss_one (ps_never)) pss_nil)
      (pss_one (ps_ret (pv 1))))))), ?_⟩
    have sz : sizeLine = 16777216 := sizeLine_eq
    have sp := PyProof.Rows.split_le z " "
    have px := fun p (hp : p ∈ Txt.split z " ") => part_sub (z := z) blank_one.1 blank_one.2.1 hp
    refine a_if (fun b H' => b = false ∧ H = H') (fun Q' kQ => ⟨_, rfl, _, _, _, _, true, rfl, .ty _, Dx.ty (.str z), kit_ty (by show kitB "str" _ = _; decide +kernel), true, rfl, kQ _ _ ⟨rfl, rfl⟩⟩) (fun H' h => nomatch h.1) ?_
    rintro _ ⟨_, rfl⟩
    refine go_nx ?_
    refine a_if (fun b H' => b = decide (z = "-") ∧ H = H') (fun Q' kQ => ?_) ?_ ?_
    · refine ⟨_, rfl, rfl, _, rfl, kQ _ _ ⟨?_, rfl⟩⟩
      by_cases q : z = "-"
      · rw [decide_eq_true q, q]
        exact decide_eq_true rfl
      · rw [decide_eq_false q]
        exact decide_eq_false fun e => q (by injection e)
    · rintro _ ⟨h2, rfl⟩
      have ez : z = "-" := of_decide_eq_true h2.symm
      have eg : gs = [] := by
        rcases hz with ⟨_, e⟩ | ⟨e, _⟩
        · exact e
        · exact absurd ez e
      subst eg
      exact ⟨(by show 0 ≤ sizeLine; decide), fun q nq => k _ _ (same_new nq) ⟨q, [], rfl, upd_same, .nil⟩⟩
    · rintro _ ⟨h2, rfl⟩
      have ez : z ≠ "-" := of_decide_eq_false h2.symm
      obtain ⟨hm, hb⟩ : (Txt.split z " ").map pairZ = gs.map some ∧ rowB (rowD gs) = true := by
        rcases hz with ⟨e, _⟩ | ⟨_, a, b⟩
        · exact absurd e ez
        · exact ⟨a, b⟩
      have lgs : gs.length = (Txt.split z " ").length := by
        have := congrArg List.length hm
        rw [List.length_map, List.length_map] at this
        exact this.symm
      refine go_nx ?_
      refine a_set (fun v H' => Same H H' ∧ RowAt H' v gs) (fun Q' kQ => ?_) ?_
      · refine ⟨_, rfl, ⟨_, rfl⟩, _, _, rfl, rfl, blank_one.2.2, (by omega), fun a np => ?_⟩
        have s1 := same_new (H := H) (o := .lst ((Txt.split z " ").map V.str)) np
        refine ⟨a, rfl, ⟨_, SqL.of upd_same⟩, fun Dl nD => ?_⟩
        refine lc_list (K := K) (a := a) (xs := (Txt.split z " ").map V.str) (fun i H' => ∃ ys, Same (upd H a (.lst ((Txt.split z " ").map V.str))) H' ∧ H' Dl = some (.lst ys) ∧ FormsAt H' ys (gs.take i)) ?_ ?_ ?_ ?_
        · exact ⟨[], same_new nD, upd_same, .nil⟩
        · rintro i H' _ ⟨_, s2, _⟩
          exact SqL.of (s2 _ _ upd_same)
        · rintro i y H2 hi ⟨ys, s2, hD, hF⟩
          rw [List.getElem?_map] at hi
          obtain ⟨p, hp, rfl⟩ := Option.map_eq_some_iff.mp hi
          have hmem := List.mem_of_getElem? hp
          obtain ⟨f, hg, hf⟩ : ∃ f, gs[i]? = some f ∧ pairZ p = some f := by
            have g := congrArg (fun l => l[i]?) hm
            simp only [List.getElem?_map, hp, Option.map_some] at g
            cases hg : gs[i]? with
            | none => rw [hg] at g; cases g
            | some f =>
              rw [hg] at g
              injection g with g
              exact ⟨f, rfl, g⟩
          refine ⟨rfl, ?_⟩
          refine ⟨_, rfl, p, f, rfl, (by have := (px p hmem).1; omega), hf, fun q H3 s3 hq => ?_⟩
          refine ⟨ys, s3 _ _ hD, ?_, ys ++ [.ref q], same_put (s2.trans s3) nD, upd_same, ?_⟩
          · have l2 := hF.len
            rw [List.length_take] at l2
            have := Nat.min_le_right i gs.length
            omega
          · rw [take_one hg]
            have t := ((hF.keep fun p zs z => s3 _ _ z).append (.cons hq .nil)).keep (tups_put (zs := ys) (o := .lst (ys ++ [.ref q])) (s3 _ _ hD))
            simpa using t
        · rintro H2 ⟨ys, s2, hD, hF⟩
          rw [List.length_map, ← lgs, List.take_length] at hF
          refine ⟨Dl, _, rfl, .inl ⟨SqL.of hD, fun q nq => kQ _ _ ⟨(s1.trans s2).trans (same_new nq), ⟨q, ys, rfl, upd_same, ?_⟩⟩⟩⟩
          exact hF.keep fun p zs z => same_new nq _ _ z
      rintro v H1 ⟨s1, hrow⟩
      refine a_if (fun b H' => b = false ∧ Same H1 H') (fun Q' kQ => ⟨_, rfl, _, _, rfl, hrow.dx0, fun H2 s2 => ⟨_, congrArg V.bl hb, kQ _ _ ⟨rfl, s2⟩⟩⟩) (fun H' h => nomatch h.1) ?_
      rintro H2 ⟨_, s2⟩
      refine go_nx ?_
      exact ⟨_, rfl, k _ _ (s1.trans s2) (hrow.grow s2)⟩
end
end G

set_option Elab.async false
set_option linter.all false
set_option maxRecDepth 100000
set_option maxHeartbeats 4000000
namespace G
open PySem PySem.Spec PyProof.Rows L2
/-! ## the law's `_law_read` -/
def TTread (K : PySem.W.Frag) (CP : Addr) : (XK → Hp → VK → Prop) → Hp → VK → Prop := fun tl H Q =>
  tl (fun cls d H' => cls = .ref CP ∧ ∃ dd : Addr, d = some dd ∧ H' dd = some (.xd [(("number" : Str), .non)]) ∧ Q (.str "none None") H') H Q
structure ReadTxt (K : PySem.W.Frag) (mg : Str → Option Value) (CP : Addr) : Prop where
  gP : mg "ParseError" = some (.ref CP)
  pp : PySem.W.exmOne K (.ref CP) (.ref CP) = some true
section
variable {X : Cx}
theorem read_gives {CP fI g : Addr} {cdg : Value} {q : Str} (T : Txt X.K X.mg) (M : ReadTxt X.K X.mg CP) (O : OwnParseError.Txt X.K X.mg CP fI) (hgd : X.A.guards = some []) (hu : X.A.units + 3 + 64 < cLine) :
    LamX.GivesTo X N__law_read "_law_read" (defScope s__law_read) g cdg (defBody s__law_read) "_law_call" q (TTread X.K CP) := by
  intro f c' s H Q tl act hc h
  have nd := sc__law_read.nd
  refine ⟨_, pss_one (ps_mix (X := (cxOf C8.CX0 X.prog X.w X.K X.mg X.base N__law_read "_law_read" (defScope s__law_read) g cdg X.A X.stack s H C8.E0).nox)
      (tb := fun W D σ H => ∃ Ech : XK, (∀ cls d σ' H', Ech cls d H' → W cls d σ' H') ∧ σ[0]? = some (some (.ref f)) ∧ H c' = some (LamX.CodeO c' q) ∧ tl Ech H (fun v H' => D.rt v H'))
      rfl rfl LamX.takes0 (fun W pn xe tk _ => ?_)
      (.named (i := 1) ⟨rfl, by decide, .inl M.gP⟩ nd rfl rfl (fun a oe cls d pn hz hf _ => pss_one (ps_ret (pe_op op_add_str pe_str (pe_callB (show CallR _ (.builtin "repr") rReprX from call_reprX (by exact hgd) (by exact hu)) (by rfl) T.repr (by decide +kernel) (pa_cons (OwnParseError.pe_fld O hz hf (pv 1)) pa_nil))))) .nil)), ?_⟩
  · refine ⟨fun pins s' σ H' D I h' => ?_⟩
    obtain ⟨Ech, hW, h1, h2, h3⟩ := h'
    exact (pss_one (ps_ret (act W pn xe Ech _ _ tk hW))).run pins s' σ H' D I ⟨h1, h2, h3⟩
  · refine ⟨_, fun cls d σ' H' hE => ?_, rfl, hc, h⟩
    obtain ⟨rfl, dd, rfl, hdd, k⟩ := hE
    refine ⟨true, M.pp, fun _ a _ (len : 1 < σ'.length) => ?_, fun z => Bool.noConfusion z⟩
    refine ⟨.ref a, by rw [List.getElem?_set_self len], rfl, rfl, dd, .non, rfl, hdd, .non, .none, rfl, .non, .inl (shw (by decide +kernel) (by decide +kernel) (by decide +kernel)), _, _, rfl, rfl, (by decide +kernel), ?_⟩
    have e : ("none " : Str) ++ PyData.none.shown = "none None" := by decide +kernel
    show Q (.str (("none " : Str) ++ PyData.none.shown)) H'
    rw [e]
    exact k
end
end G

set_option Elab.async false
set_option linter.all false
set_option maxRecDepth 100000
set_option maxHeartbeats 4000000
namespace G
open PySem PySem.Spec PyProof.Rows L2
section
variable {gq : Bool} {P : Program} {w : World} {K : PySem.W.Frag} {mg : Str → Option Value} {base : Heap}
theorem x_read_row {CP fI : Addr} (T : Txt K mg) (O_ParseError : OwnParseError.Txt K mg CP fI) (C_read_pair : CalXQ gq P w K mg base 4 "read_pair" ["text"] (spReadPair CP)) (C_is_row : CalQ gq P w K mg base 6 "is_row" ["value"] (spJ rowB)) (D : DefAt K mg "read_row" s_read_row ["text"]) :
    CalXQ gq P w K mg base 7 "read_row" ["text"] (spReadRow CP) := by
  refine calOkXQ D sc_read_row (fun xs H Q E h => ?_) (fun f cdv A out s H xs Q E hgd hr h => ?_)
  · obtain ⟨x, d, rfl, _⟩ := h
    rfl
  · obtain ⟨x, d, rfl, hx, hz, k1, k2⟩ := h
    have nd := sc_read_row.nd
    refine ⟨_, (pss_cons (ps_if (pt_not (pt_val (pe_callB call_isi (by rfl) T.isinstance (by decide +kernel) (pa_cons (pv 0) (pa_cons (pe_ty "str" rfl T.str (by decide +kernel)) pa_nil))))) (pss_one (ps_raise rfl (takes_of rfl rfl rfl rfl) (OwnParseError.pmk O_ParseError hr rfl (pa_cons pe_non pa_nil)))) pss_nil)
      (pss_cons (ps_if (pt_cmpR op_eq (pv 0) pe_str (nomark _)) (PSs.nox (pss_one (ps_ret (pe_tup pa_nil)))) pss_nil)
      (pss_cons (ps_set (i := 1) nd rfl (.inl rfl) (pe_callTy call_tuple_of (by rfl) T.tuple (by decide +kernel) (pa_cons (pe_lcX (own := [("part", 2)]) (g := gName 2) (by rfl) nd rfl rfl (takes_of rfl rfl rfl rfl) (pi_list (pe_split (pv 0) pe_str)) (blkOk_by (own := [("part", 2)]) (N := N_read_row) (sc := defScope s_read_row) (by decide +kernel)) (fun _ _ _ _ _ => pg_name (i := 2) nd rfl (.inl rfl)) (fun _ _ _ _ _ => pts_nil) (fun _ _ _ _ _ xe hx => pe_kxH C_read_pair hx hgd hr (by decide) rfl (pa_cons (pv 2) pa_nil))) pa_nil)))
      (pss_cons (ps_if (pt_not (pt_val (pe_kq C_is_row hgd hr (by decide) rfl (pa_cons (pv 1) pa_nil)))) (pss_one (ps_raise rfl (takes_of rfl rfl rfl rfl) (OwnParseError.pmk O_ParseError hr rfl (pa_cons pe_non pa_nil)))) pss_nil)
      (PSs.nox (pss_one (ps_ret (pv 1)))))))), ?_⟩
    have sz : sizeLine = 16777216 := sizeLine_eq
    refine a_if (fun b H' => b = !(match d with | .str _ => true | _ => false) ∧ H = H') (fun Q' kQ => ?_) ?_ ?_
    · cases hx with
      | str z => exact ⟨_, rfl, _, _, _, _, true, rfl, .ty _, Dx.ty (.str z), kit_ty (by show kitB "str" _ = _; decide +kernel), true, rfl, kQ _ _ ⟨rfl, rfl⟩⟩
      | non => exact ⟨_, rfl, _, _, _, _, false, rfl, .ty _, Dx.ty .non, kit_ty (by show kitB "NoneType" _ = _; decide +kernel), false, rfl, kQ _ _ ⟨rfl, rfl⟩⟩
      | bl b => exact ⟨_, rfl, _, _, _, _, false, rfl, .ty _, Dx.ty (.bl b), kit_ty (by show kitB "bool" _ = _; decide +kernel), false, rfl, kQ _ _ ⟨rfl, rfl⟩⟩
      | int i => exact ⟨_, rfl, _, _, _, _, false, rfl, .ty _, Dx.ty (.int i), kit_ty (by show kitB "int" _ = _; decide +kernel), false, rfl, kQ _ _ ⟨rfl, rfl⟩⟩
      | lst h1 h2 => exact ⟨_, rfl, _, _, _, _, false, rfl, .ty _, Dx.ty (.lst h1 h2), kit_ty (by show kitB "list" _ = _; decide +kernel), false, rfl, kQ _ _ ⟨rfl, rfl⟩⟩
      | tup h1 h2 => exact ⟨_, rfl, _, _, _, _, false, rfl, .ty _, Dx.ty (.tup h1 h2), kit_ty (by show kitB "tuple" _ = _; decide +kernel), false, rfl, kQ _ _ ⟨rfl, rfl⟩⟩
      | dct h1 h2 => exact ⟨_, rfl, _, _, _, _, false, rfl, .ty _, Dx.ty (.dct h1 h2), kit_ty (by show kitB "dict" _ = _; decide +kernel), false, rfl, kQ _ _ ⟨rfl, rfl⟩⟩
    · rintro _ ⟨h1, rfl⟩
      have no : ∀ z fs, d = .str z → ¬ RowIs z fs := by
        rintro z fs rfl
        cases h1
      exact ⟨.non, rfl, fun dd nd => k2 no _ dd (Same.refl H) nd⟩
    · rintro _ ⟨h1, rfl⟩
      obtain ⟨z, rfl⟩ : ∃ z, d = .str z := by
        cases d with
        | str z => exact ⟨z, rfl⟩
        | _ => cases h1
      cases hx
      have lz := hz z rfl
      have sp := PyProof.Rows.split_le z " "
      have px := fun p (hp : p ∈ Txt.split z " ") => part_sub (z := z) blank_one.1 blank_one.2.1 hp
      have kn : (∀ fs, ¬ RowIs z fs) → ParseOut CP H E := fun h => k2 fun z' fs e => by
        injection e with e
        subst e
        exact h fs
      refine go_nx ?_
      refine a_if (fun b H' => b = decide (z = "-") ∧ H = H') (fun Q' kQ => ?_) ?_ ?_
      · refine ⟨_, rfl, rfl, _, rfl, kQ _ _ ⟨?_, rfl⟩⟩
        by_cases q : z = "-"
        · rw [decide_eq_true q, q]
          exact decide_eq_true rfl
        · rw [decide_eq_false q]
          exact decide_eq_false fun e => q (by injection e)
      · rintro _ ⟨h2, rfl⟩
        have ez : z = "-" := of_decide_eq_true h2.symm
        exact ⟨(by show 0 ≤ sizeLine; decide), fun q nq => k1 z [] rfl (.inl ⟨ez, rfl⟩) _ _ (same_new nq) ⟨q, [], rfl, upd_same, .nil⟩⟩
      · rintro _ ⟨h2, rfl⟩
        have ez : z ≠ "-" := of_decide_eq_false h2.symm
        refine go_nx ?_
        refine a_set (fun v H' => ∃ fs, Same H H' ∧ RowAt H' v fs ∧ (Txt.split z " ").map pairZ = fs.map some) (fun Q' kQ => ?_) ?_
        · refine ⟨_, rfl, ⟨_, rfl⟩, _, _, rfl, rfl, blank_one.2.2, (by omega), fun a np => ?_⟩
          have s1 := same_new (H := H) (o := .lst ((Txt.split z " ").map V.str)) np
          refine ⟨a, rfl, ⟨_, SqL.of upd_same⟩, fun Dl nD => ?_⟩
          refine lc_list (K := K) (a := a) (xs := (Txt.split z " ").map V.str) (fun i H' => ∃ ys fs, Same (upd H a (.lst ((Txt.split z " ").map V.str))) H' ∧ H' Dl = some (.lst ys) ∧ FormsAt H' ys fs ∧ ((Txt.split z " ").take i).map pairZ = fs.map some) ?_ ?_ ?_ ?_
          · exact ⟨[], [], same_new nD, upd_same, .nil, rfl⟩
          · rintro i H' _ ⟨_, _, s2, _⟩
            exact SqL.of (s2 _ _ upd_same)
          · rintro i y H2 hi ⟨ys, fs, s2, hD, hF, hm⟩
            rw [List.getElem?_map] at hi
            obtain ⟨p, hp, rfl⟩ := Option.map_eq_some_iff.mp hi
            have hmem := List.mem_of_getElem? hp
            refine ⟨rfl, ?_⟩
            refine ⟨_, rfl, _, .str p, rfl, .str p, ?_, ?_, ?_⟩
            · intro z' e
              injection e with e
              subst e
              have := (px p hmem).1
              omega
            · intro z' f e hf q H3 s3 hq
              injection e with e
              subst e
              refine ⟨ys, s3 _ _ hD, ?_, ys ++ [.ref q], fs ++ [f], same_put (s2.trans s3) nD, upd_same, ?_, ?_⟩
              · have l1 := congrArg List.length hm
                rw [List.length_map, List.length_map, List.length_take] at l1
                have l2 := hF.len
                have := Nat.min_le_right i (Txt.split z " ").length
                omega
              · exact ((hF.keep fun p zs z => s3 _ _ z).append (.cons hq .nil)).keep (tups_put (s3 _ _ hD))
              · rw [take_one hp, List.map_append, hm, List.map_append]
                show _ ++ [pairZ p] = _
                rw [hf] <;> rfl
            · intro no
              have none : ∀ gs, ¬ RowIs z gs := by
                rintro gs (⟨e, _⟩ | ⟨_, e, _⟩)
                · exact ez e
                · have g := congrArg (fun l => l[i]?) e
                  simp only [List.getElem?_map, hp, Option.map_some] at g
                  cases hg : gs[i]? with
                  | none => rw [hg] at g; cases g
                  | some f =>
                    rw [hg] at g
                    injection g with g
                    exact no p f rfl g
              intro H3 dd s3 n3
              exact kn none H3 dd ((s1.trans s2).trans s3) n3
          · rintro H2 ⟨ys, fs, s2, hD, hF, hm⟩
            rw [List.length_map, List.take_length] at hm
            refine ⟨Dl, _, rfl, .inl ⟨SqL.of hD, fun q nq => kQ _ _ ⟨fs, (s1.trans s2).trans (same_new nq), ⟨q, ys, rfl, upd_same, ?_⟩, hm⟩⟩⟩
            exact hF.keep fun p zs z => same_new nq _ _ z
        rintro v H1 ⟨fs, s1, hrow, hm⟩
        refine a_if (fun b H' => b = !rowB (rowD fs) ∧ Same H1 H') (fun Q' kQ => ?_) ?_ ?_
        · exact ⟨_, rfl, _, _, rfl, hrow.dx0, fun H2 s2 => ⟨_, rfl, kQ _ _ ⟨rfl, s2⟩⟩⟩
        · rintro H2 ⟨h3, s2⟩
          have none : ∀ gs, ¬ RowIs z gs := by
            rintro gs (⟨e, _⟩ | ⟨_, e, hb⟩)
            · exact ez e
            · rw [hm] at e
              have : fs = gs := List.map_inj_right (fun _ _ e => Option.some.inj e) |>.mp e
              subst this
              rw [hb] at h3
              cases h3
          exact ⟨.non, rfl, fun dd nd => kn none _ dd (s1.trans s2) nd⟩
        · rintro H2 ⟨h3, s2⟩
          refine go_nx ?_
          exact ⟨_, rfl, k1 z fs rfl (.inr ⟨ez, hm, by simpa using h3.symm⟩) _ _ (s1.trans s2) (hrow.grow s2)⟩
end

end G

set_option Elab.async false
set_option linter.all false
set_option maxRecDepth 100000
set_option maxHeartbeats 4000000
namespace G
open PySem PySem.Spec PyProof.Rows L2
/-! ## texts of pairs and rows, there and back -/
open TL in
theorem text_signs {n : Int} {c : Nat} (h : c ∈ tl (textZ n)) : c = 45 ∨ (48 ≤ c ∧ c ≤ 57) := by
  rw [tl_text] at h
  rcases List.mem_append.mp h with h | h
  · split at h
    · exact .inl (List.mem_singleton.mp h)
    · cases h
  · exact .inr (numL_digits _ _ h)
theorem join_two (a b : Str) : Txt.join "." [a, b] = (a ++ ("." : Str)) ++ b := by
  rw [TL.join_eq]
  rfl
open TL in
theorem split_pair (f : Int × Int) : Txt.split (pairT f) "." = [textZ f.1, textZ f.2] := by
  have e : pairT f = Txt.join "." [textZ f.1, textZ f.2] := (join_two _ _).symm
  rw [e]
  refine split_join (s := 46) (S := []) (by decide +kernel) dot_one.2.1 (by simp) fun p hp hm => ?_
  have : ∀ n : Int, 46 ∉ tl (textZ n) := fun n h => by
    have := text_signs h
    omega
  simp only [List.mem_cons, List.not_mem_nil, or_false] at hp
  rcases hp with rfl | rfl
  · exact this _ hm
  · exact this _ hm
theorem pairZ_text {f : Int × Int} (h : BigF f) : pairZ (pairT f) = some f := by
  rw [pairZ_two (split_pair f), whole_text h.1 h.2.1, whole_text h.2.2.1 h.2.2.2]
theorem join_back (z y : Str) : Txt.join y (Txt.split z y) = z := by
  rw [TL.join_eq]
  exact PySem.StrLaws.join_split z y
theorem text_pairZ {z : Str} {f : Int × Int} (h : pairZ z = some f) : pairT f = z := by
  have e := (pair_some h).2.2
  have j := join_back z "."
  rw [e, join_two] at j
  exact j
open TL in
theorem pair_signs {f : Int × Int} {c : Nat} (h : c ∈ tl (pairT f)) : c = 45 ∨ c = 46 ∨ (48 ≤ c ∧ c ≤ 57) := by
  unfold pairT at h
  rw [tl_append, tl_append] at h
  rcases List.mem_append.mp h with h | h
  · rcases List.mem_append.mp h with h | h
    · rcases text_signs h with q | q
      · exact .inl q
      · exact .inr (.inr q)
    · rw [show tl ("." : Str) = [46] by decide +kernel] at h
      exact .inr (.inl (List.mem_singleton.mp h))
  · rcases text_signs h with q | q
    · exact .inl q
    · exact .inr (.inr q)
open TL in
theorem pair_dot (f : Int × Int) : 46 ∈ tl (pairT f) := by
  unfold pairT
  rw [tl_append, tl_append, show tl ("." : Str) = [46] by decide +kernel]
  simp
open TL in
theorem split_row {fs : List (Int × Int)} (h : fs ≠ []) : Txt.split (Txt.join " " (fs.map pairT)) " " = fs.map pairT := by
  refine split_join (s := 32) (S := []) (by decide +kernel) blank_one.2.1 (by simpa using h) fun p hp hm => ?_
  obtain ⟨f, _, rfl⟩ := List.mem_map.mp hp
  have := pair_signs hm
  omega
open TL in
theorem row_text_is {fs : List (Int × Int)} (hb : rowB (rowD fs) = true) : RowIs (rowT fs) fs := by
  unfold rowT
  by_cases q : fs = []
  · rw [if_pos q]
    exact .inl ⟨rfl, q⟩
  · rw [if_neg q]
    have sp := split_row q
    obtain ⟨gs, eg, _, hs, _⟩ := rowB_out hb
    obtain rfl : fs = gs := rowD_inj eg
    refine .inr ⟨fun e => ?_, ?_, hb⟩
    · rw [e] at sp
      have s1 : Txt.split ("-" : Str) " " = [("-" : Str)] := by decide +kernel
      rw [s1] at sp
      cases fs with
      | nil => exact q rfl
      | cons f r =>
        have e1 : ("-" : Str) = pairT f := by
          have := congrArg List.head? sp
          simpa using this
        have d := pair_dot f
        rw [← e1] at d
        exact absurd d (by decide +kernel)
    · rw [sp, List.map_map]
      refine List.map_congr_left fun f hf => ?_
      exact pairZ_text (side_big (hs f hf))
theorem is_row_text {z : Str} {fs : List (Int × Int)} (h : RowIs z fs) : rowT fs = z := by
  rcases h with ⟨rfl, rfl⟩ | ⟨ne, e, _⟩
  · rfl
  · have q : fs ≠ [] := by
      rintro rfl
      exact split_ne z (List.map_eq_nil_iff.mp e)
    unfold rowT
    rw [if_neg q]
    have back : fs.map pairT = Txt.split z " " := by
      have key : ∀ (ps : List Str) (gs : List (Int × Int)), ps.map pairZ = gs.map some → gs.map pairT = ps := by
        intro ps
        induction ps with
        | nil =>
          intro gs h
          cases gs with
          | nil => rfl
          | cons _ _ => cases h
        | cons p r ih =>
          intro gs h
          cases gs with
          | nil => cases h
          | cons g gr =>
            rw [List.map_cons, List.map_cons] at h
            injection h with h1 h2
            rw [List.map_cons, ih gr h2, text_pairZ h1]
      exact key _ _ e
    rw [back]
    exact join_back z " "
/-- no text is that of two rows -/
theorem row_one {z : Str} {fs gs : List (Int × Int)} (h : RowIs z fs) (k : RowIs z gs) : fs = gs := by
  rcases h with ⟨e1, rfl⟩ | ⟨n1, e1, _⟩
  · rcases k with ⟨_, rfl⟩ | ⟨n2, _, _⟩
    · rfl
    · exact absurd e1 n2
  · rcases k with ⟨e2, _⟩ | ⟨_, e2, _⟩
    · exact absurd e2 n1
    · rw [e1] at e2
      exact List.map_inj_right (fun _ _ e => Option.some.inj e) |>.mp e2
open TL in
/-- the mirrored pair of two figures, sign by sign -/
theorem mirror_signs {f : Int × Int} (h : Side 7 f) : ∃ a b : Nat, tl (pairT f) = [a, 46, b] ∧ textZ f.1 = ⟨#[a]⟩ ∧ textZ f.2 = ⟨#[b]⟩ := by
  obtain ⟨h1, h2, h3, h4⟩ := h
  have one : ∀ n : Int, 0 ≤ n → n ≤ 7 → ∃ a : Nat, tl (textZ n) = [a] := fun n p q => by
    rw [tl_text, if_neg (by omega), numL_lt (by omega)]
    exact ⟨_, rfl⟩
  obtain ⟨a, ha⟩ := one f.1 h1 h2
  obtain ⟨b, hb⟩ := one f.2 h3 h4
  refine ⟨a, b, ?_, ext_tl (by rw [ha] <;> rfl), ext_tl (by rw [hb] <;> rfl)⟩
  unfold pairT
  rw [tl_append, tl_append, ha, hb, show tl ("." : Str) = [46] by decide +kernel] <;> rfl
end G

set_option Elab.async false
set_option linter.all false
set_option maxRecDepth 100000
set_option maxHeartbeats 4000000
namespace G
open PySem PySem.Spec PyProof.Rows L2
section
variable {X : Cx}
theorem pe_read {CP fI c P : Addr} {T : List (Addr × Str)} {k : Nat} {params : Arguments} {body : Expr} {scope : Scope} {t : XK → TE} {p lpos pos : Pos}
    (TX : Txt X.K X.mg) (M : ReadTxt X.K X.mg CP) (O : OwnParseError.Txt X.K X.mg CP fI) (D : DefAt X.K X.mg "_law_read" s__law_read ["_law_call"])
    (hgd : X.A.guards = some []) (hg : Gl X "_law_read")
    (TB : LamX.TabB X.base X.mg c P) (hcode : X.env.code = .ref c) (hmT : (P, X.env.qual ++ "<lambda>") ∈ T) (hu : ∀ p ∈ T, p.1 = P → p.2 = X.env.qual ++ "<lambda>") (hr : Room (k + 2) X.A) (L : LamX.LamS X.env.scope scope) (hdef : defaultsOf params X.env = ([], []))
    (hbind : ∀ (q : Str) (cl : List (Str × Addr)) (pm cv ctv : Value), bindArgs (PySem.W.kla_fn "<lambda>" q params body scope cl pm cv ctv) ⟨[], []⟩ = pure [])
    (hbody : ∀ (A : Around) (outer : List Env) (s : Shared) (H : Hp) (E : XK) (f c' : Addr), Room k (A.deeper (LamX.lamEnv X scope s.heap.objs.size f c')) → PE (LamX.lamCx X A outer s H E scope f c') body (t E)) :
    PE X (.Call (.Name "_law_read" p) [.Lambda params body scope lpos] [] pos) (LamX.tLam T (TTread X.K CP) t) := by
  obtain ⟨f, fd, F, m, b⟩ := D.ex
  obtain ⟨oc, od, kV, doc, pm, an, cdv, ct, osl, rfl, lk, hcd⟩ := F.ex
  exact LamX.pe_lamcall hg m F.kp lk hcd (Binds.all b) sc__law_read rfl (.inl rfl) (read_gives TX M O hgd (by have := hr.un; omega)) TB hcode hmT hu hr L hdef hbind hbody
end
end G

set_option Elab.async false
set_option linter.all false
set_option maxRecDepth 100000
set_option maxHeartbeats 4000000
namespace G
open PySem PySem.Spec PyProof.Rows L2
/-! ## what is due and what is told -/
def pairO (nd : PyData) : Option (Int × Int) → PyData
  | none => nd
  | some f => formD f
def rowO (nd : PyData) : Option (List (Int × Int)) → PyData
  | none => nd
  | some fs => rowD fs
def IsP (H : Hp) (x nn : V) : Option (Int × Int) → Prop
  | none => x = nn
  | some f => ∃ q : Addr, x = .ref q ∧ H q = some (.tup [.int f.1, .int f.2])
def IsR (H : Hp) (x nn : V) : Option (List (Int × Int)) → Prop
  | none => x = nn
  | some fs => RowAt H x fs
def TupK (H H' : Hp) : Prop := ∀ (p : Addr) (zs : List V), H p = some (.tup zs) → H' p = some (.tup zs)
theorem TupK.same {H H' : Hp} (s : Same H H') : TupK H H' := fun _ _ z => s _ _ z
theorem TupK.ext {H H' : Hp} (s : LamX.ExtN H H') : TupK H H' := fun _ _ z => s _ _ z fun _ q => by cases q
theorem IsP.keep {H H' : Hp} {x nn : V} : ∀ {o : Option (Int × Int)}, IsP H x nn o → TupK H H' → IsP H' x nn o
  | none, h, _ => h
  | some _, ⟨q, e, h⟩, s => ⟨q, e, s _ _ h⟩
theorem IsR.keep {H H' : Hp} {x nn : V} : ∀ {o : Option (List (Int × Int))}, IsR H x nn o → TupK H H' → IsR H' x nn o
  | none, h, _ => h
  | some _, h, s => RowAt.keep s h
theorem IsP.dx {H : Hp} {x nn : V} {nd : PyData} (hn : Dx H nn nd) : ∀ {o : Option (Int × Int)}, IsP H x nn o → Dx H x (pairO nd o)
  | none, h => by rw [show x = nn from h]; exact hn
  | some _, ⟨q, e, h⟩ => by rw [e]; exact .tup h (.cons (.int _) (.cons (.int _) .nil))
theorem IsR.dx {H : Hp} {x nn : V} {nd : PyData} (hn : Dx H nn nd) : ∀ {o : Option (List (Int × Int))}, IsR H x nn o → Dx H x (rowO nd o)
  | none, h => by rw [show x = nn from h]; exact hn
  | some _, h => RowAt.dx0 h
theorem log_1200 {i : Int} (h1 : -BIG < i) (h2 : i < BIG) : i.natAbs.log2 < 1200 := by
  by_cases q : i.natAbs = 0
  · rw [q]
    decide +kernel
  · refine (Nat.log2_lt q).mpr (Nat.lt_of_lt_of_le (m := 2 ^ 200) ?_ (Nat.pow_le_pow_right (by decide) (by decide)))
    have e : (2 : Nat) ^ 200 = 1606938044258990275541962092341162602522202993782792835301376 := by decide +kernel
    unfold BIG at h1 h2
    omega
theorem nice_form {f : Int × Int} (h : BigF f) : nice (formD f) = true := by
  obtain ⟨a, b, c, d⟩ := h
  simp [formD, nice, niceAll, log_1200 a b, log_1200 c d]
theorem nice_row : ∀ {fs : List (Int × Int)}, (∀ f ∈ fs, BigF f) → nice (rowD fs) = true ∧ (rowD fs).bulk = 3 * fs.length ∧ (rowD fs).depth ≤ 3
  | [], _ => by simp [rowD, nice, niceAll, PyData.bulk, PyData.bulkAll, PyData.depth, PyData.depthAll]
  | f :: r, h => by
    obtain ⟨i1, i2, i3⟩ := nice_row (fs := r) fun g hg => h g (List.mem_cons_of_mem _ hg)
    have n := nice_form (h f List.mem_cons_self)
    simp only [rowD, nice, PyData.bulk, PyData.depth] at i1 i2 i3
    simp only [rowD, List.map_cons, nice, niceAll, n, i1, PyData.bulk, PyData.bulkAll, i2, PyData.depth, PyData.depthAll, Bool.and_self, List.length_cons, true_and]
    refine ⟨?_, ?_⟩
    · have : (formD f).bulk = 2 := by simp [formD, PyData.bulk, PyData.bulkAll]
      omega
    · have : (formD f).depth ≤ 1 := by simp [formD, PyData.depth, PyData.depthAll]
      omega
theorem nice_signs {z : Str} (h : ∀ c ∈ TL.tl z, c < 128) : nice (.str z) = true := by
  simp only [nice]
  refine List.all_eq_true.mpr fun c hc => decide_eq_true ?_
  have := h c hc
  omega
theorem shw_two {o1 : Option (Int × Int)} {o2 : Option (List (Int × Int))} (h1 : ∀ f, o1 = some f → BigF f) (h2 : ∀ fs, o2 = some fs → fs.length ≤ 200 ∧ ∀ f ∈ fs, BigF f) :
    Shw (.list [pairO (.str "none None") o1, rowO (.str "none None") o2]) := by
  have a : ∀ o1, (∀ f, o1 = some f → BigF f) → nice (pairO (.str "none None") o1) = true ∧ (pairO (.str "none None") o1).bulk ≤ 1000 ∧ (pairO (.str "none None") o1).depth ≤ 3 := by
    rintro (_ | f) h
    · exact ⟨by decide +kernel, by decide +kernel, by decide +kernel⟩
    · exact ⟨nice_form (h f rfl), by simp [pairO, formD, PyData.bulk, PyData.bulkAll], by simp [pairO, formD, PyData.depth, PyData.depthAll]⟩
  have b : nice (rowO (.str "none None") o2) = true ∧ (rowO (.str "none None") o2).bulk ≤ 1000 ∧ (rowO (.str "none None") o2).depth ≤ 3 := by
    match o2, h2 with
    | none, _ => exact ⟨by decide +kernel, by decide +kernel, by decide +kernel⟩
    | some fs, h2 =>
      obtain ⟨l, hb⟩ := h2 fs rfl
      obtain ⟨n1, n2, n3⟩ := nice_row hb
      exact ⟨n1, by show (rowD fs).bulk ≤ 1000; omega, n3⟩
  obtain ⟨a1, a2, a3⟩ := a o1 h1
  obtain ⟨b1, b2, b3⟩ := b
  refine shw (by simp only [nice, niceAll, a1, b1, Bool.and_self]) (by simp only [PyData.depth, PyData.depthAll]; omega) (by simp only [PyData.bulk, PyData.bulkAll]; omega)
theorem pairT_signs {f : Int × Int} : ∀ c ∈ TL.tl (pairT f), c < 128 := fun c h => by
  have := pair_signs h
  omega
open TL in
theorem joinL_mem {S : List Nat} {c : Nat} : ∀ {ps : List (List Nat)}, c ∈ joinL S ps → c ∈ S ∨ ∃ p ∈ ps, c ∈ p
  | [], h => by cases h
  | [p], h => .inr ⟨p, List.mem_cons_self, h⟩
  | p :: q :: r, h => by
    have h : c ∈ p ++ (S ++ joinL S (q :: r)) := h
    rcases List.mem_append.mp h with h | h
    · exact .inr ⟨p, List.mem_cons_self, h⟩
    · rcases List.mem_append.mp h with h | h
      · exact .inl h
      · rcases joinL_mem h with h | ⟨t, ht, h⟩
        · exact .inl h
        · exact .inr ⟨t, List.mem_cons_of_mem _ ht, h⟩
open TL in
theorem joinL_len {S : List Nat} {n : Nat} : ∀ {ps : List (List Nat)}, (∀ p ∈ ps, p.length ≤ n) → (joinL S ps).length ≤ ps.length * (n + S.length)
  | [], _ => by simp [joinL]
  | [p], h => by
    have := h p List.mem_cons_self
    show p.length ≤ 1 * _
    omega
  | p :: q :: r, h => by
    have h1 := h p List.mem_cons_self
    have h2 := joinL_len (S := S) (ps := q :: r) fun t ht => h t (List.mem_cons_of_mem _ ht)
    show (p ++ (S ++ joinL S (q :: r))).length ≤ _
    rw [List.length_append, List.length_append, List.length_cons, Nat.add_mul]
    omega
open TL in
theorem rowT_signs (fs : List (Int × Int)) : ∀ c ∈ TL.tl (rowT fs), c < 128 := by
  unfold rowT
  by_cases q : fs = []
  · rw [if_pos q]
    decide +kernel
  · rw [if_neg q]
    intro c hc
    rw [TL.join_eq, tl_join] at hc
    rcases joinL_mem hc with h | ⟨p, hp, h⟩
    · have : ∀ c ∈ tl (" " : Str), c < 128 := by decide +kernel
      exact this c h
    · obtain ⟨x, hx, rfl⟩ := List.mem_map.mp hp
      obtain ⟨f, _, rfl⟩ := List.mem_map.mp hx
      exact pairT_signs c h
open TL in
theorem rowT_len {fs : List (Int × Int)} (h : ∀ f ∈ fs, BigF f) : (rowT fs).length ≤ 124 * fs.length + 1 := by
  unfold rowT
  by_cases q : fs = []
  · rw [if_pos q]
    have : Str.length ("-" : Str) = 1 := by decide +kernel
    omega
  · rw [if_neg q, TL.join_eq, len_tl, tl_join]
    have l := joinL_len (S := tl (" " : Str)) (n := 123) (ps := (fs.map pairT).map tl) fun p hp => by
      obtain ⟨x, hx, rfl⟩ := List.mem_map.mp hp
      obtain ⟨f, hf, rfl⟩ := List.mem_map.mp hx
      rw [← len_tl]
      exact pairT_len (h f hf)
    have e1 : (tl (" " : Str)).length = 1 := by decide +kernel
    rw [e1, List.length_map, List.length_map] at l
    omega
theorem shw_four {f : Int × Int} {fs : List (Int × Int)} (h1 : BigF f) (h2 : fs.length ≤ 200) (h3 : ∀ f ∈ fs, BigF f) (h4 : (rowT fs).length ≤ 5000) :
    Shw (.list [.str (pairT f), formD f, .str (rowT fs), rowD fs]) := by
  obtain ⟨n1, n2, n3⟩ := nice_row h3
  have a1 := nice_form h1
  have a2 := nice_signs (pairT_signs (f := f))
  have a3 := nice_signs (rowT_signs fs)
  have l := pairT_len h1
  refine shw (by simp only [nice, niceAll] at *; simp only [a1, a2, a3, n1, Bool.and_self]) ?_ ?_
  · have : (formD f).depth ≤ 1 := by simp [formD, PyData.depth, PyData.depthAll]
    simp only [PyData.depth, PyData.depthAll]
    omega
  · have e : (formD f).bulk = 2 := by simp [formD, PyData.bulk, PyData.bulkAll]
    have e1 : (pairT f).cps.size = (pairT f).length := rfl
    have e2 : (rowT fs).cps.size = (rowT fs).length := rfl
    simp only [PyData.bulk, PyData.bulkAll]
    omega
theorem cutF_swap (fs : List (Int × Int)) : cutF (fs.map Prod.swap) = (cutF fs).map Prod.swap := by
  unfold cutF
  rw [← List.map_reverse, List.dropWhile_map, List.map_reverse]
  congr 2
  refine congrArg (fun p => List.dropWhile p fs.reverse) (funext fun f => ?_)
  obtain ⟨a, b⟩ := f
  simp only [Function.comp, Prod.swap, Prod.mk.injEq]
  rw [decide_eq_decide]
  exact and_comm
theorem mirror_ok {fs : List (Int × Int)} (h : rowB (rowD fs) = true) : rowB (rowD (fs.map Prod.swap)) = true := by
  obtain ⟨gs, eg, hl, hs, hc⟩ := rowB_out h
  obtain rfl : fs = gs := rowD_inj eg
  refine rowB_D (fun f hf => ?_) (by rw [List.length_map]; omega) (by rw [cutF_swap, hc])
  obtain ⟨g, hg, rfl⟩ := List.mem_map.mp hf
  obtain ⟨a, b, c, d⟩ := hs g hg
  exact ⟨c, d, a, b⟩
theorem pairReadL_to {z : Str} {H : Hp} {Q : VK} {E : XK} (h1 : z.length ≤ 1000000) (h2 : ∀ c ∈ TL.tl z, c < 128) (k : ∀ x H', Same H H' → IsP H' x .non (pairZ z) → Q x H') : spPairReadL [.str z] H Q E :=
  ⟨z, rfl, h1, h2, fun f e p H' s hp => k _ _ s (by rw [e]; exact ⟨p, rfl, hp⟩), fun e H' s => k _ _ s (by rw [e]; rfl)⟩
theorem rowReadL_to {z : Str} {o : Option (List (Int × Int))} (ho : ∀ fs, RowIs z fs ↔ o = some fs) {H : Hp} {Q : VK} {E : XK} (h1 : z.length ≤ 1000000) (h2 : ∀ c ∈ TL.tl z, c < 128) (k : ∀ x H', Same H H' → IsR H' x .non o → Q x H') : spRowReadL [.str z] H Q E :=
  ⟨z, rfl, h1, h2, fun fs e v H' s hv => k _ _ s (by rw [(ho fs).mp e]; exact hv), fun no H' s => k _ _ s (by
    cases o with
    | none => rfl
    | some fs => exact absurd ((ho fs).mpr rfl) (no fs))⟩
theorem readPair_to {z : Str} {H : Hp} {Q : VK} {CP : Addr} {E : XK} (hl : z.length ≤ 1000000) (hE : ∀ (dd : Addr) H', H' dd = some (.xd [(("number" : Str), .non)]) → Q (.str "none None") H' → E (.ref CP) (some dd) H')
    (k : ∀ x H', Same H H' → IsP H' x (.str "none None") (pairZ z) → Q x H') : spReadPair CP [.str z] H Q E :=
  ⟨.str z, .str z, rfl, .str z, fun z' e => by injection e with e; subst e; exact hl, fun z' f e hp p H' s hq => by injection e with e; subst e; exact k _ _ s (by rw [hp]; exact ⟨p, rfl, hq⟩),
    fun no H' dd s nd => hE dd _ upd_same (k _ _ (s.trans (same_new nd)) (by
      cases h : pairZ z with
      | none => rfl
      | some f => exact absurd h (no z f rfl)))⟩
theorem readRow_to {z : Str} {o : Option (List (Int × Int))} (ho : ∀ fs, RowIs z fs ↔ o = some fs) {H : Hp} {Q : VK} {CP : Addr} {E : XK} (hl : z.length ≤ 1000000) (hE : ∀ (dd : Addr) H', H' dd = some (.xd [(("number" : Str), .non)]) → Q (.str "none None") H' → E (.ref CP) (some dd) H')
    (k : ∀ x H', Same H H' → IsR H' x (.str "none None") o → Q x H') : spReadRow CP [.str z] H Q E :=
  ⟨.str z, .str z, rfl, .str z, fun z' e => by injection e with e; subst e; exact hl, fun z' fs e hp v H' s hv => by injection e with e; subst e; exact k _ _ s (by rw [(ho fs).mp hp]; exact hv),
    fun no H' dd s nd => hE dd _ upd_same (k _ _ (s.trans (same_new nd)) (by
      cases o with
      | none => rfl
      | some fs => exact absurd ((ho fs).mpr rfl) (no z fs rfl)))⟩
theorem row_opt (z : Str) : ∃ o : Option (List (Int × Int)), ∀ fs, RowIs z fs ↔ o = some fs := by
  by_cases q : ∃ gs, RowIs z gs
  · obtain ⟨gs, hg⟩ := q
    exact ⟨some gs, fun fs => ⟨fun h => by rw [row_one hg h], fun e => by injection e with e; rw [← e]; exact hg⟩⟩
  · exact ⟨none, fun fs => ⟨fun h => (q ⟨fs, h⟩).elim, fun e => nomatch e⟩⟩
theorem row_is_ok {z : Str} {fs : List (Int × Int)} (h : RowIs z fs) : rowB (rowD fs) = true := by
  rcases h with ⟨_, rfl⟩ | ⟨_, _, h⟩
  · decide +kernel
  · exact h
theorem row_bounds {fs : List (Int × Int)} (h : rowB (rowD fs) = true) : fs.length ≤ 200 ∧ ∀ f ∈ fs, BigF f := by
  obtain ⟨gs, eg, hl, hs, _⟩ := rowB_out h
  obtain rfl : fs = gs := rowD_inj eg
  exact ⟨hl, fun f hf => side_big (hs f hf)⟩
theorem MvT.lst {T : List (Addr × Str)} {d p : Addr} {H H' : Hp} {xs : List V} (m : MvT T d H H') (n : p ≠ d) (h : H p = some (.lst xs)) : H' p = some (.lst xs) := by
  have q := m.ext p _ (by rw [hide_ne n]; exact h) fun _ z => by cases z
  rw [hide_ne n] at q
  exact q
theorem MvT.tupK {T : List (Addr × Str)} {d : Addr} {H H' : Hp} (m : MvT T d H H') (dd : DiceAt H d) : TupK H H' := fun p zs h => by
  have n : p ≠ d := dd.neT h
  have q := m.ext p _ (by rw [hide_ne n]; exact h) fun _ z => by cases z
  rw [hide_ne n] at q
  exact q
end G

set_option Elab.async false
set_option linter.all false
set_option maxRecDepth 100000
set_option maxHeartbeats 4000000
namespace G
open PySem PySem.Spec PyProof.Rows L2
def tabs4 (PR PL : Addr) : List (Addr × Str) := [(PR, (envOfC "_law_right" (defScope s__law_right) 0 0 .none).qual ++ "<lambda>"), (PL, (envOfC "law" (defScope s_law) 0 0 .none).qual ++ "<lambda>")]
def spTrue4 (T : List (Addr × Str)) : Sp := fun vs H Q _ => ∃ d : Addr, vs = [.ref d] ∧ DiceAt H d ∧ LamX.Tabs T H ∧ ∀ H', MvT T d H H' → Q (.bl true) H'
theorem half_ok {t : Int} (h : t.natAbs.log2 < 9000) : CDivW t 2 := by
  first
    | exact ⟨by decide, h⟩
    | exact ⟨by decide, by omega⟩
    | exact ⟨by decide, h, by decide +kernel⟩
    | exact ⟨h, by decide⟩
    | (constructor <;> first | decide | exact h)
theorem a_asg2 {K : PySem.W.Frag} {i j : Nat} {ta : TA} {rest : TS} {D : Ends} {σ : L2.St} {H : Hp} (R : V → V → Hp → Prop) (h : ∀ Q' : List V → Hp → Prop, (∀ v w H', R v w H' → Q' [v, w] H') → ta σ H Q')
    (k : ∀ v w H' p, R v w H' → H' p = none → rest D ((σ.set i (some v)).set j (some w)) (upd H' p (.tup [v, w]))) : tSeq (tAsg (tTup ta) (gTup K 2 (gCons (gName i) (gCons (gName j) gNil)))) rest D σ H :=
  h _ fun v w H' r => ⟨(by show 2 ≤ sizeLine; decide), fun p np => ⟨p, [v, w], rfl, SqT.of upd_same, rfl, v, [w], rfl, w, [], rfl, rfl, k v w H' p r np⟩⟩
theorem a_expr {te : TE} {rest : TS} {D : Ends} {σ : L2.St} {H : Hp} (R : Hp → Prop) (h : ∀ Q' : VK, (∀ v H', R H' → Q' v H') → te σ H Q') (k : ∀ H', R H' → rest D σ H') : tSeq (tDrop te) rest D σ H := h _ fun v H' r => k H' r
theorem or_no {tA tB : TT} {σ : L2.St} {H : Hp} {Q : Bool → Hp → Prop} (R : Hp → Prop) (h1 : ∀ Q2 : Bool → Hp → Prop, (∀ H', R H' → Q2 false H') → tA σ H Q2) (h2 : ∀ H', R H' → tB σ H' Q) : tOr tA tB σ H Q := h1 _ fun H' r => h2 H' r
theorem ne_self (x : Str) : (!decide (V.str x = V.str x)) = false := by simp
section
variable {P : Program} {w : World} {K : PySem.W.Frag} {mg : Str → Option Value} {base : Heap}
theorem c_right {CP fI cR PR PL : Addr} (T : Txt K mg) (hne : PR ≠ PL) (M : ReadTxt K mg CP) (O : OwnParseError.Txt K mg CP fI) (TB : LamX.TabB base mg cR PR)
    (C__law_pick : CalG P w K mg base 2 "_law_pick" ["_law_dice_here", "_law_items"] (spPick K)) (C__law_roll : CalG P w K mg base 1 "_law_roll" ["_law_dice_here", "_law_total"] spRoll)
    (C__law_some_row : CalG P w K mg base 3 "_law_some_row" ["_law_dice_here", "_law_levels", "_law_high"] spSomeRow)
    (C__law_pair_text : CalG P w K mg base 1 "_law_pair_text" ["_law_pair"] spPairText) (C__law_row_text : CalG P w K mg base 2 "_law_row_text" ["_law_row"] spRowText)
    (C_write_pair : CalG P w K mg base 3 "write_pair" ["pair"] spWritePair) (C_write_row : CalG P w K mg base 8 "write_row" ["row"] spWriteRow) (C_mirrored_row : CalG P w K mg base 8 "mirrored_row" ["row"] spMirrorR)
    (C_read_pair' : CalG P w K mg base 4 "read_pair" ["text"] spReadPairR) (C_read_row' : CalG P w K mg base 7 "read_row" ["text"] spReadRowR)
    (C_read_pair : CalXQ false P w K mg base 4 "read_pair" ["text"] (spReadPair CP)) (C_read_row : CalXQ false P w K mg base 7 "read_row" ["text"] (spReadRow CP))
    (C__law_bent : CalG P w K mg base 3 "_law_bent" ["_law_dice_here", "_law_text"] spBent) (C__law_pair_read : CalG P w K mg base 2 "_law_pair_read" ["_law_text"] spPairReadL) (C__law_row_read : CalG P w K mg base 3 "_law_row_read" ["_law_text"] spRowReadL)
    (D_law_read : DefAt K mg "_law_read" s__law_read ["_law_call"]) (D : DefAtC K mg "_law_right" s__law_right ["_law_dice_here"] cR) :
    CalG P w K mg base 12 "_law_right" ["_law_dice_here"] (spTrue4 (tabs4 PR PL)) := by
  refine calOkC D sc__law_right (fun xs H Q E h => ?_) (fun f A out s H xs Q E hgd hr h => ?_)
  · obtain ⟨d, rfl, _⟩ := h
    rfl
  · obtain ⟨d, rfl, hd, ht, k⟩ := h
    have nd := sc__law_right.nd
    have hmT : (PR, (envOfC "_law_right" (defScope s__law_right) 0 0 .none).qual ++ "<lambda>") ∈ tabs4 PR PL := List.mem_cons_self
    have huT : ∀ p ∈ tabs4 PR PL, p.1 = PR → p.2 = (envOfC "_law_right" (defScope s__law_right) 0 0 .none).qual ++ "<lambda>" := fun p hp e => by
      rcases List.mem_cons.mp hp with z | z
      · rw [z]
      · rw [List.mem_singleton.mp z] at e
        exact absurd e.symm hne
    refine ⟨_, (pss_cons (ps_set (i := 1) nd rfl (.inl rfl) (pe_k C__law_pick hgd hr (by decide) rfl (pa_cons (pv 0) (pa_cons (pe_lst (pa_cons pe_int (pa_cons pe_int (pa_cons (pe_op op_pow pe_int pe_int) (pa_cons (pe_op op_pow pe_int pe_int) pa_nil))))) pa_nil))))
      (pss_cons (ps_set (i := 2) nd rfl (.inl rfl) (pe_tup (pa_cons (pe_op op_sub (pe_k C__law_roll hgd hr (by decide) rfl (pa_cons (pv 0) (pa_cons (pv 1) pa_nil))) (pe_op op_fdivW (pv 1) pe_int)) (pa_cons (pe_op op_sub (pe_k C__law_roll hgd hr (by decide) rfl (pa_cons (pv 0) (pa_cons (pv 1) pa_nil))) (pe_op op_fdivW (pv 1) pe_int)) pa_nil))))
      (pss_cons (ps_set (i := 3) nd rfl (.inl rfl) (pe_k C__law_some_row hgd hr (by decide) rfl (pa_cons (pv 0) (pa_cons pe_int (pa_cons pe_int pa_nil)))))
      (pss_cons (ps_asg (pe_tup (pa_cons (pe_k C__law_pair_text hgd hr (by decide) rfl (pa_cons (pv 2) pa_nil)) (pa_cons (pe_k C__law_row_text hgd hr (by decide) rfl (pa_cons (pv 3) pa_nil)) pa_nil))) (pg_tup (by rfl) (pgs_cons (pg_name (i := 9) nd rfl (.inr rfl)) (pgs_cons (pg_name (i := 8) nd rfl (.inr rfl)) pgs_nil))))
      (pss_cons (ps_set (i := 4) nd rfl (.inl rfl) (pe_lst (pa_cons (pe_k C_write_pair hgd hr (by decide) rfl (pa_cons (pv 2) pa_nil)) (pa_cons (pe_k C_read_pair' hgd hr (by decide) rfl (pa_cons (pv 9) pa_nil)) (pa_cons (pe_k C_write_row hgd hr (by decide) rfl (pa_cons (pv 3) pa_nil)) (pa_cons (pe_k C_read_row' hgd hr (by decide) rfl (pa_cons (pv 8) pa_nil)) pa_nil))))))
      (pss_cons (ps_if (pt_cmpR op_ne (pe_callB (call_reprX hgd hr.units) (by rfl) T.repr (by decide +kernel) (pa_cons (pv 4) pa_nil)) (pe_callB (call_reprX hgd hr.units) (by rfl) T.repr (by decide +kernel) (pa_cons (pe_lst (pa_cons (pv 9) (pa_cons (pv 2) (pa_cons (pv 8) (pa_cons (pv 3) pa_nil))))) pa_nil)) (nomark _)) (pss_one (ps_ret pe_bl)) pss_nil)
      (pss_cons (ps_set (i := 5) nd rfl (.inl rfl) (pe_ifExp (pt_cmpR (op_neD hr.units) (pv 3) (pe_tup pa_nil) (nomark _)) (pe_lc (own := [("_law_word", 10)]) (g := gName 10) (by rfl) nd (pi_list (pe_split (pv 8) pe_str)) (blkOk_by (own := [("_law_word", 10)]) (N := N__law_right) (sc := defScope s__law_right) (by decide +kernel)) (fun _ _ _ _ _ => pg_name (i := 10) nd rfl (.inl rfl)) (fun _ _ _ _ _ => pts_nil) (fun _ _ _ _ _ => pe_op op_add_str (pe_op op_add_str (pe_ix ix_str (pv 10) pe_int (fun _ _ => rfl)) pe_str) (pe_ix ix_str (pv 10) pe_int (fun _ _ => rfl)))) (pe_lst (pa_cons pe_str pa_nil))))
      (pss_cons (ps_if (pt_cmpR op_ne (pe_k C_write_row hgd hr (by decide) rfl (pa_cons (pe_k C_mirrored_row hgd hr (by decide) rfl (pa_cons (pv 3) pa_nil)) pa_nil)) (pe_join pe_str (pv 5)) (nomark _)) (pss_one (ps_ret pe_bl)) pss_nil)
      (pss_cons (ps_for PassesOwn.never rfl (pi_range1 rfl T.range (pa_cons pe_int pa_nil)) (pg_name (i := 6) nd rfl (.inl rfl)) (pss_cons (ps_asg (pe_tup (pa_cons (pe_k C__law_bent hgd hr (by decide) rfl (pa_cons (pv 0) (pa_cons (pv 9) pa_nil))) (pa_cons (pe_k C__law_bent hgd hr (by decide) rfl (pa_cons (pv 0) (pa_cons (pv 8) pa_nil))) pa_nil))) (pg_tup (by rfl) (pgs_cons (pg_name (i := 9) nd rfl (.inr rfl)) (pgs_cons (pg_name (i := 8) nd rfl (.inr rfl)) pgs_nil))))
        (pss_cons (ps_set (i := 7) nd rfl (.inl rfl) (pe_lst (pa_cons (pe_k C__law_pair_read hgd hr (by decide) rfl (pa_cons (pv 9) pa_nil)) (pa_cons (pe_k C__law_row_read hgd hr (by decide) rfl (pa_cons (pv 8) pa_nil)) pa_nil))))
        (pss_cons (ps_set (i := 4) nd rfl (.inl rfl) (pe_lst (pa_cons (pe_read T M O D_law_read hgd rfl TB rfl hmT huT hr (LamX.lamS_by (sc := defScope s__law_right) (by decide +kernel)) rfl (fun _ _ _ _ _ => rfl) (fun A outer s H E f c' hr2 => pe_kxq (gq := false) C_read_pair (takes_of rfl rfl rfl rfl) (fun z => Bool.noConfusion z) hr2 (by decide) rfl (pa_cons (pv 9) pa_nil))) pa_nil)))
        (pss_cons (ps_expr (pe_bm PySem.F.plainAttrs_list PySem.F.slot_list_append PySem.F.type_list_append mt_append (pv 4) (pa_cons (pe_read T M O D_law_read hgd rfl TB rfl hmT huT hr (LamX.lamS_by (sc := defScope s__law_right) (by decide +kernel)) rfl (fun _ _ _ _ _ => rfl) (fun A outer s H E f c' hr2 => pe_kxq (gq := false) C_read_row (takes_of rfl rfl rfl rfl) (fun z => Bool.noConfusion z) hr2 (by decide) rfl (pa_cons (pv 8) pa_nil))) pa_nil)))
        (pss_cons (ps_if (pt_cmpR op_ne (pe_callB (call_reprX hgd hr.units) (by rfl) T.repr (by decide +kernel) (pa_cons (pv 4) pa_nil)) (pe_callB (call_reprX hgd hr.units) (by rfl) T.repr (by decide +kernel) (pa_cons (pe_lc (own := [("_law_one", 11)]) (g := gName 11) (by rfl) nd (pi_list (pv 7)) (blkOk_by (own := [("_law_one", 11)]) (N := N__law_right) (sc := defScope s__law_right) (by decide +kernel)) (fun _ _ _ _ _ => pg_name (i := 11) nd rfl (.inl rfl)) (fun _ _ _ _ _ => pts_nil) (fun _ _ _ _ _ => pe_ifExp (pt_cmpR op_isN (pv 11) pe_non (nomark _)) pe_str (pv 11))) pa_nil)) (nomark _)) (pss_one (ps_ret pe_bl)) pss_nil)
        (pss_one (ps_if (PW.pt (pw_or (PW.pt (pw_and (pt_cmpR op_notN (pe_ix ix_list (pv 7) pe_int (fun _ _ => rfl)) pe_non (nomark _)) (pw_and1 (pt_cmpR op_ne (pe_k C_write_pair hgd hr (by decide) rfl (pa_cons (pe_ix ix_list (pv 7) pe_int (fun _ _ => rfl)) pa_nil)) (pv 9) (nomark _))))) (pw_or1 (PW.pt (pw_and (pt_cmpR op_notN (pe_ix ix_list (pv 7) pe_int (fun _ _ => rfl)) pe_non (nomark _)) (pw_and1 (pt_cmpR op_ne (pe_k C_write_row hgd hr (by decide) rfl (pa_cons (pe_ix ix_list (pv 7) pe_int (fun _ _ => rfl)) pa_nil)) (pv 8) (nomark _)))))))) (pss_one (ps_ret pe_bl)) pss_nil))))))))
      (pss_one (ps_ret pe_bl))))))))))), ?_⟩
    have m := MvT.refl hd ht
    -- _law_great
    refine a_set (fun v H' => ∃ t : Int, v = .int t ∧ 3 ≤ t ∧ t ≤ BIG ∧ MvT (tabs4 PR PL) d H H') (fun Q' kQ => ?_) ?_
    · refine ⟨_, rfl, _, _, rfl, rfl, ⟨by decide, by decide, by decide⟩, _, _, rfl, rfl, ⟨by decide, by decide, by decide⟩, (by show 4 ≤ sizeLine; decide), fun p1 n1 => ?_⟩
      have m1 := Mv.new (o := .lst [.int 3, .int 10, .int (10 ^ Int.toNat 20), .int (10 ^ Int.toNat 60)]) (Mv.refl hd) n1
      refine ⟨_, _, _, rfl, m1.dice, SqL.of upd_same, hd.ne n1, (by show 0 < 4; decide), (by show 4 ≤ 1000; decide), fun i2 x2 H2 e2 m2 f2 => ?_⟩
      obtain ⟨t, rfl, h1, h2⟩ : ∃ t : Int, x2 = .int t ∧ 3 ≤ t ∧ t ≤ BIG := by
        match i2, e2 with
        | 0, e => cases e; exact ⟨_, rfl, by decide +kernel, by decide +kernel⟩
        | 1, e => cases e; exact ⟨_, rfl, by decide +kernel, by decide +kernel⟩
        | 2, e => cases e; exact ⟨_, rfl, by decide +kernel, by decide +kernel⟩
        | 3, e => cases e; exact ⟨_, rfl, by decide +kernel, by decide +kernel⟩
        | n + 4, e => cases e
      exact kQ _ _ ⟨t, rfl, h1, h2, m.mv (m1.trans m2)⟩
    rintro _ H1 ⟨t, rfl, t1, t2, m⟩
    have lt : t.natAbs.log2 < 9000 := by
      refine Nat.lt_of_le_of_lt (m := (10 ^ 60 : Nat).log2) ?_ (by decide +kernel)
      by_cases q : t.natAbs = 0
      · rw [q]
        decide +kernel
      · refine Nat.le_of_lt_succ ((Nat.log2_lt q).mpr (Nat.lt_of_le_of_lt (m := 10 ^ 60) ?_ (by decide +kernel)))
        have e60 : (10 : Nat) ^ 60 = 1000000000000000000000000000000000000000000000000000000000000 := by decide
        unfold BIG at t2
        omega
    -- _law_pair
    refine a_set (fun v H' => ∃ (p : Addr) (f : Int × Int), v = .ref p ∧ H' p = some (.tup [.int f.1, .int f.2]) ∧ BigF f ∧ MvT (tabs4 PR PL) d H H') (fun Q' kQ => ?_) ?_
    · refine ⟨_, rfl, _, rfl, d, t, rfl, m.dice, (by omega), lt, fun r1 H2 a1 b1 m1 f1 => ?_⟩
      refine ⟨_, rfl, _, _, rfl, rfl, half_ok lt, _, _, rfl, rfl, ?_⟩
      refine ⟨_, rfl, _, rfl, d, t, rfl, m1.dice, (by omega), lt, fun r2 H3 a2 b2 m2 f2 => ?_⟩
      refine ⟨_, rfl, _, _, rfl, rfl, half_ok lt, _, _, rfl, rfl, (by show 2 ≤ sizeLine; decide), fun p np => ?_⟩
      have hb : BigF (r1 - t / 2, r2 - t / 2) := by
        unfold BigF
        unfold BIG at *
        omega
      exact kQ _ _ ⟨p, (r1 - t / 2, r2 - t / 2), rfl, upd_same, hb, ((m.mv m1).mv m2).new np⟩
    rintro _ H2 ⟨pp, fp, rfl, hpp, hbf, m⟩
    -- _law_row
    refine a_set (fun v H' => ∃ fs, RowAt H' v fs ∧ rowB (rowD fs) = true ∧ fs.length ≤ 6 ∧ (∀ f ∈ fs, Side 7 f) ∧ H' pp = some (.tup [.int fp.1, .int fp.2]) ∧ MvT (tabs4 PR PL) d H H') (fun Q' kQ => ?_) ?_
    · refine ⟨_, rfl, d, 6, 7, rfl, m.dice, (by decide), (by decide), (by decide), (by decide), fun q fs H3 sf lf cf m3 hx => ?_⟩
      have hp3 := m3.tups m.dice _ _ hpp
      exact kQ _ _ ⟨fs, RowAt.of hx, rowB_D sf (by omega) cf, by omega, sf, hp3, m.mv m3⟩
    rintro vr H3 ⟨fs, hrow, hb, l6, sf, hpp, m⟩
    have bf : ∀ f ∈ fs, BigF f := fun f hf => side_big (sf f hf)
    have l6' : fs.length ≤ 200 := by omega
    have sz : sizeLine = 16777216 := sizeLine_eq
    have lT := rowT_len bf
    have pT := pairT_len hbf
    -- _law_text, _law_line
    refine a_asg2 (fun x y H' => x = .str (pairT fp) ∧ y = .str (rowT fs) ∧ Same H3 H') (fun Q' kQ => ?_) ?_
    · exact ⟨_, rfl, pp, fp, rfl, hpp, hbf, _, rfl, vr, fs, rfl, hrow, l6', bf, fun H' s1 => kQ _ _ _ ⟨rfl, rfl, s1⟩⟩
    rintro _ _ H4 p4 ⟨rfl, rfl, s4⟩ n4
    replace s4 := s4.trans (same_new (o := .tup [.str (pairT fp), .str (rowT fs)]) n4)
    replace hpp := s4 _ _ hpp
    replace hrow := hrow.grow s4
    replace m := m.same s4
    generalize upd H4 p4 (.tup [.str (pairT fp), .str (rowT fs)]) = H5 at *
    clear s4
    -- _law_told
    refine a_set (fun v H' => Dx H' v (.list [.str (pairT fp), formD fp, .str (rowT fs), rowD fs]) ∧ Same H5 H') (fun Q' kQ => ?_) ?_
    · refine ⟨_, rfl, .ref pp, fp, rfl, .tup hpp (.cons (.int _) (.cons (.int _) .nil)), hbf, fun L1 s1 => ?_⟩
      refine ⟨_, rfl, _, fp, rfl, (by omega), pairZ_text hbf, fun q L2 s2 hq => ?_⟩
      refine ⟨_, rfl, vr, fs, rfl, hrow.grow (s1.trans s2), hb, fun L3 s3 => ?_⟩
      refine ⟨_, rfl, _, fs, rfl, (by omega), row_text_is hb, fun v L4 s4 hv => ?_⟩
      refine ⟨(by show 4 ≤ sizeLine; decide), fun p np => ?_⟩
      have s5 := same_new (o := .lst [.str (pairT fp), .ref q, .str (rowT fs), v]) np
      refine kQ _ _ ⟨.lst upd_same (.cons (.str _) (.cons (.tup (s5 _ _ (s4 _ _ (s3 _ _ hq))) (.cons (.int _) (.cons (.int _) .nil))) (.cons (.str _) (.cons (hv.grow s5).dx0 .nil)))), (((s1.trans s2).trans s3).trans s4).trans s5⟩
    rintro vt H6 ⟨xt, s6⟩
    replace hpp := s6 _ _ hpp
    replace hrow := hrow.grow s6
    replace m := m.same s6
    clear s6
    have w4 := shw_four (f := fp) (fs := fs) hbf l6' bf (by omega)
    -- if repr(_law_told) != ..
    refine a_if (fun b H' => b = false ∧ Same H6 H') (fun Q' kQ => ?_) (fun H' h => nomatch h.1) ?_
    · refine ⟨_, rfl, _, _, rfl, xt, .inl w4, _, rfl, _, rfl, _, rfl, _, rfl, (by show 4 ≤ sizeLine; decide), fun p np => ?_⟩
      have s5 := same_new (o := .lst [.str (pairT fp), .ref pp, .str (rowT fs), vr]) np
      refine ⟨_, _, rfl, .lst upd_same (.cons (.str _) (.cons (.tup (s5 _ _ hpp) (.cons (.int _) (.cons (.int _) .nil))) (.cons (.str _) (.cons (hrow.grow s5).dx0 .nil)))), .inl w4, ?_⟩
      refine ⟨rfl, _, congrArg V.bl (?_ : _ = false), kQ _ _ ⟨rfl, s5⟩⟩
      exact ne_self _
    rintro H7 ⟨_, s7⟩
    replace hpp := s7 _ _ hpp
    replace hrow := hrow.grow s7
    replace m := m.same s7
    clear s7 xt
    refine go_nx ?_
    -- _law_words
    refine a_set (fun v H' => ∃ (p : Addr) (ws : List Str), v = .ref p ∧ H' p = some (.lst (ws.map V.str)) ∧ Txt.join " " ws = rowT (fs.map Prod.swap) ∧ ws.length ≤ 200 ∧ (∀ w ∈ ws, w.length ≤ 200) ∧ Same H7 H') (fun Q' kQ => ?_) ?_
    · refine ⟨_, rfl, (by show 0 ≤ sizeLine; decide), fun p np => ?_⟩
      have s1 := same_new (H := H7) (o := .tup []) np
      refine ⟨rowD fs, .tuple [], (hrow.grow s1).dx0.dp (noDictT fs), .tup (SqT.of upd_same) .nil, shapedT fs, shapedU4, _, congrArg V.bl (by rw [eqv_unit4]), ite2 (fun h1 => ?_) (fun h1 => ?_)⟩
      · have ne : fs ≠ [] := by
          rintro rfl
          cases h1
        have er : rowT fs = Txt.join " " (fs.map pairT) := if_neg ne
        have sp : Txt.split (rowT fs) " " = fs.map pairT := by rw [er]; exact split_row ne
        have sl := PyProof.Rows.split_le (rowT fs) " "
        refine ⟨_, rfl, ⟨_, rfl⟩, _, _, rfl, rfl, blank_one.2.2, (by omega), fun a na => ?_⟩
        have s2 := same_new (H := upd H7 p (.tup [])) (o := .lst ((Txt.split (rowT fs) " ").map V.str)) na
        refine ⟨a, rfl, ⟨_, SqL.of upd_same⟩, fun Dl nD => ?_⟩
        refine lc_list (K := K) (a := a) (xs := (Txt.split (rowT fs) " ").map V.str) (fun i H' => Same (upd (upd H7 p (.tup [])) a (.lst ((Txt.split (rowT fs) " ").map V.str))) H' ∧ H' Dl = some (.lst ((((fs.take i).map Prod.swap).map pairT).map V.str))) ?_ ?_ ?_ ?_
        · exact ⟨same_new nD, upd_same⟩
        · rintro i H' _ ⟨s3, _⟩
          exact SqL.of (s3 _ _ upd_same)
        · rintro i y H2 hi ⟨s3, hD⟩
          rw [sp, List.map_map, List.getElem?_map] at hi
          obtain ⟨f, hf, rfl⟩ := Option.map_eq_some_iff.mp hi
          obtain ⟨x1, x2, et, e1, e2⟩ := mirror_signs (sf f (List.mem_of_getElem? hf))
          have c2 : (pairT f).cps.toList[2]? = some x2 := by
            show (TL.tl (pairT f))[2]? = some x2
            rw [et] <;> rfl
          have c0 : (pairT f).cps.toList[0]? = some x1 := by
            show (TL.tl (pairT f))[0]? = some x1
            rw [et] <;> rfl
          have lp := pairT_len (bf f (List.mem_of_getElem? hf))
          have one : ∀ c : Nat, Str.length (⟨#[c]⟩ : Str) = 1 := fun c => rfl
          have ld : Str.length ("." : Str) = 1 := by decide +kernel
          refine ⟨rfl, ?_⟩
          refine ⟨_, rfl, _, _, _, rfl, rfl, ?_, atI_nat (j := 2) c2, _, _, rfl, rfl, ?_, _, rfl, _, _, _, rfl, rfl, ?_, atI_nat (j := 0) c0, _, _, rfl, rfl, ?_, _, hD, ?_, same_put s3 nD, ?_⟩
          · omega
          · rw [one, ld]
            omega
          · omega
          · rw [Str.length_append, one, one, ld]
            omega
          · rw [List.length_map, List.length_map, List.length_map, List.length_take]
            exact small1000 (by omega)
          · rw [upd_same, take_one hf, List.map_append, List.map_append, List.map_append]
            show _ = some (HO.lst (_ ++ [V.str ((textZ f.2 ++ ("." : Str)) ++ textZ f.1)]))
            rw [e1, e2]
        · rintro H2 ⟨s3, hD⟩
          have el : ((Txt.split (rowT fs) " ").map V.str).length = fs.length := by rw [sp, List.length_map, List.length_map]
          rw [el, List.take_length] at hD
          refine kQ _ _ ⟨_, _, rfl, hD, ?_, ?_, ?_, (s1.trans s2).trans s3⟩
          · unfold rowT
            rw [if_neg (by simpa using ne)]
          · rw [List.length_map, List.length_map]
            omega
          · intro w hw
            obtain ⟨g, hg, rfl⟩ := List.mem_map.mp hw
            obtain ⟨h, hh, rfl⟩ := List.mem_map.mp hg
            have b := bf h hh
            have := pairT_len (f := h.swap) ⟨b.2.2.1, b.2.2.2, b.1, b.2.1⟩
            omega
      · have e : fs = [] := by
          cases fs with
          | nil => rfl
          | cons _ _ => exact absurd rfl h1
        subst e
        refine ⟨(by show 1 ≤ sizeLine; decide), fun q nq => ?_⟩
        exact kQ _ _ ⟨q, ["-"], rfl, upd_same, by decide +kernel, by decide, by decide +kernel, s1.trans (same_new nq)⟩
    rintro _ H8 ⟨pw, ws, rfl, hws, ew, lw, kw, s8⟩
    replace hpp := s8 _ _ hpp
    replace hrow := hrow.grow s8
    replace m := m.same s8
    clear s8
    -- mirrored
    refine a_if (fun b H' => b = false ∧ Same H8 H') (fun Q' kQ => ?_) (fun H' h => nomatch h.1) ?_
    · refine ⟨_, rfl, vr, fs, rfl, hrow, hb, fun v L1 s1 hv => ?_⟩
      refine ⟨v, _, rfl, hv, mirror_ok hb, fun L2 s2 => ?_⟩
      refine ⟨⟨_, rfl⟩, _, rfl, _, _, ws, rfl, rfl, .inl (SqL.of (s2 _ _ (s1 _ _ hws))), ?_, ?_⟩
      · have a := sum_le (xs := ws) (n := 200) kw
        have c : (" " : Str).length = 1 := by decide +kernel
        rw [c, Nat.mul_one]
        omega
      · rw [ew]
        exact ⟨rfl, _, congrArg V.bl (ne_self _), kQ _ _ ⟨rfl, s1.trans s2⟩⟩
    rintro H9 ⟨_, s9⟩
    replace hpp := s9 _ _ hpp
    replace hrow := hrow.grow s9
    replace m := m.same s9
    clear s9
    refine go_nx ?_
    have lT' : (rowT fs).length ≤ 1000 := by omega
    clear ew lw kw hws w4 lT hb hbf sf l6 l6' bf t1 t2 lt hpp hrow
    -- for _law_turn in range(6)
    refine ⟨6, rfl, (by decide), (by decide), ?_⟩
    refine for_range (fun i σ H' => ∃ (v1 v2 v3 v4 v5 v6 v7 v10 v11 : Option V) (zt zl : Str), σ = [some (.ref d), v1, v2, v3, v4, v5, v6, v7, some (.str zl), some (.str zt), v10, v11] ∧ zt.length ≤ 1000 + i ∧ zl.length ≤ 1000 + i ∧ (∀ c ∈ TL.tl zt, c < 128) ∧ (∀ c ∈ TL.tl zl, c < 128) ∧ MvT (tabs4 PR PL) d H H') ?_ ?_ ?_
    · exact ⟨_, _, _, _, _, _, _, _, _, _, _, rfl, by omega, by omega, pairT_signs, rowT_signs fs, m⟩
    · rintro i σ H0 hi ⟨v1, v2, v3, v4, v5, v6, v7, v10, v11, zt, zl, rfl, lt, ll, at_, al, m⟩
      refine a_asg2 (fun x y H' => ∃ zt' zl', x = .str zt' ∧ y = .str zl' ∧ zt'.length ≤ zt.length + 1 ∧ zl'.length ≤ zl.length + 1 ∧ (∀ c ∈ TL.tl zt', c < 128) ∧ (∀ c ∈ TL.tl zl', c < 128) ∧ Mv d H0 H') (fun Q' kQ => ?_) ?_
      · refine ⟨_, rfl, _, rfl, d, zt, rfl, m.dice, (by omega), at_, fun z1 L1 q1 q2 m1 => ?_⟩
        refine ⟨_, rfl, _, rfl, d, zl, rfl, m1.dice, (by omega), al, fun z2 L2 q3 q4 m2 => ?_⟩
        exact kQ _ _ _ ⟨z1, z2, rfl, rfl, q1, q3, q2, q4, m1.trans m2⟩
      rintro _ _ H1 p1 ⟨zt', zl', rfl, rfl, q1, q3, q2, q4, m1⟩ n1
      replace m := (m.mv m1).new (o := .tup [.str zt', .str zl']) n1
      generalize upd H1 p1 (.tup [.str zt', .str zl']) = H2 at *
      obtain ⟨o2, ho2⟩ := row_opt zl'
      have b1 : ∀ f, pairZ zt' = some f → BigF f := fun f e => (pair_some e).2.1
      have b2 : ∀ fs, o2 = some fs → rowB (rowD fs) = true := fun fs e => row_is_ok ((ho2 fs).mpr e)
      have w2 := shw_two b1 fun fs e => row_bounds (b2 fs e)
      -- _law_due
      refine a_set (fun v H' => ∃ (p : Addr) (x y : V), v = .ref p ∧ p ≠ d ∧ H' p = some (.lst [x, y]) ∧ IsP H' x .non (pairZ zt') ∧ IsR H' y .non o2 ∧ Same H2 H') (fun Q' kQ => ?_) ?_
      · refine ⟨_, rfl, ?_⟩
        dsimp only [tNil]
        refine pairReadL_to (z := zt') (H := H2) (by omega) q2 fun x L1 s1 hx => ?_
        refine ⟨_, rfl, ?_⟩
        dsimp only [tNil]
        refine rowReadL_to (z := zl') (H := L1) ho2 (by omega) q4 fun y L2 s2 hy => ?_
        refine ⟨(by show 2 ≤ sizeLine; decide), fun p np => ?_⟩
        exact kQ _ _ ⟨p, x, y, rfl, (m.same (s1.trans s2)).dice.ne np, upd_same, (hx.keep (TupK.same s2)).keep (TupK.same (same_new np)), hy.keep (TupK.same (same_new np)), (s1.trans s2).trans (same_new np)⟩
      rintro _ H3 ⟨pu, xu, yu, rfl, pud, hpu, hxu, hyu, s3⟩
      replace m := m.same s3
      have n := MvT.refl m.dice m.tabs
      -- _law_told
      refine a_set (fun v H' => ∃ (p : Addr) (x : V), v = .ref p ∧ p ≠ d ∧ NewAt H3 p ∧ H' p = some (.lst [x]) ∧ IsP H' x (.str "none None") (pairZ zt') ∧ MvT (tabs4 PR PL) d H3 H') (fun Q' kQ => ?_) ?_
      · refine ⟨n.tabs, fun L1 e1 t1 => ?_⟩
        replace n := n.lam e1 t1
        refine ⟨_, rfl, ?_⟩
        dsimp only [tNil]
        refine readPair_to (z := zt') (H := L1) (CP := CP) (by omega) (fun dd H' h q => ⟨rfl, dd, rfl, h, q⟩) fun x L2 s2 hx => ?_
        replace n := n.same s2
        refine ⟨(by show 1 ≤ sizeLine; decide), fun p np => ?_⟩
        exact kQ _ _ ⟨p, x, rfl, n.dice.ne np, n.newAt np, upd_same, hx.keep (TupK.same (same_new np)), n.new np⟩
      clear n
      rintro _ H4 ⟨p, x, rfl, pd, pn, hp, hx, n⟩
      refine a_expr (fun H' => ∃ y, H' p = some (.lst [x, y]) ∧ IsP H' x (.str "none None") (pairZ zt') ∧ IsR H' y (.str "none None") o2 ∧ MvT (tabs4 PR PL) d H3 H') (fun Q' kQ => ?_) (fun H5 h5 => ?_)
      · refine ⟨_, rfl, .inl ⟨rfl, _, SqL.of hp⟩, n.tabs, fun L1 e1 t1 => ?_⟩
        replace n := n.lam e1 t1
        replace hp := ext_lst e1 hp
        replace hx := hx.keep (TupK.ext e1)
        refine ⟨_, rfl, ?_⟩
        dsimp only [tNil]
        refine readRow_to (z := zl') (H := L1) (CP := CP) ho2 (by omega) (fun dd H' h q => ⟨rfl, dd, rfl, h, q⟩) fun y L2 s2 hy => ?_
        replace hp := s2 _ _ hp
        replace hx := hx.keep (TupK.same s2)
        replace n := n.same s2
        exact ⟨p, _, _, rfl, rfl, hp, (by show 1 < sizeLine; decide), kQ _ _ ⟨y, upd_same, hx.keep (tups_put hp), hy.keep (tups_put hp), n.put2 pn pd hp⟩⟩
      obtain ⟨y, hp5, hx5, hy5, n5⟩ := h5
      have hpu5 := n5.lst pud hpu
      have hxu5 := hxu.keep (n5.tupK m.dice)
      have hyu5 := hyu.keep (n5.tupK m.dice)
      replace m := m.trans n5
      clear hp hx n hpu hxu hyu n5
      -- if repr(told) != ..
      refine a_if (fun b H' => b = false ∧ Same H5 H') (fun Q' kQ => ?_) (fun H' h => nomatch h.1) ?_
      · have elem : ∀ (i : Nat) (y : V), [xu, yu][i]? = some y → ∃ dat, [pairO (.str "none None") (pairZ zt'), rowO (.str "none None") o2][i]? = some dat ∧ ((y = .non ∧ dat = .str "none None") ∨ (y ≠ .non ∧ Dx H5 y dat)) := by
          intro i y hi
          match i, hi with
          | 0, e =>
            cases e
            refine ⟨_, rfl, ?_⟩
            cases h : pairZ zt' with
            | none => rw [h] at hxu5; exact .inl ⟨hxu5, rfl⟩
            | some f =>
              rw [h] at hxu5
              obtain ⟨q, rfl, hq⟩ := hxu5
              exact .inr ⟨V.noConfusion, .tup hq (.cons (.int _) (.cons (.int _) .nil))⟩
          | 1, e =>
            cases e
            refine ⟨_, rfl, ?_⟩
            cases o2 with
            | none => exact .inl ⟨hyu5, rfl⟩
            | some fs =>
              have z := RowAt.dx0 hyu5
              obtain ⟨a, xs, rfl, _⟩ := hyu5
              exact .inr ⟨V.noConfusion, z⟩
          | n + 2, e => cases e
        refine ⟨_, rfl, _, .list [pairO (.str "none None") (pairZ zt'), rowO (.str "none None") o2], rfl, .lst hp5 (.cons (hx5.dx (.str _)) (.cons (hy5.dx (.str _)) .nil)), .inl w2, ?_⟩
        refine ⟨_, rfl, pu, rfl, ⟨_, SqL.of hpu5⟩, fun Dl nD => ?_⟩
        refine lc_list (K := K) (a := pu) (xs := [xu, yu]) (fun i H' => ∃ ys, Same H5 H' ∧ H' Dl = some (.lst ys) ∧ DxAll H5 ys ([pairO (.str "none None") (pairZ zt'), rowO (.str "none None") o2].take i)) ?_ ?_ ?_ ?_
        · exact ⟨[], same_new nD, upd_same, .nil⟩
        · rintro i H' _ ⟨_, s6, _⟩
          exact SqL.of (s6 _ _ hpu5)
        · rintro i y H6 hi ⟨ys, s6, hD, hA⟩
          refine ⟨rfl, ?_⟩
          obtain ⟨dat, hd', hy⟩ := elem i y hi
          have ly : ys.length < sizeLine := by
            rw [hA.len, List.length_take]
            exact small1000 (Nat.le_trans (Nat.min_le_right _ _) (by show 2 ≤ 1000; decide))
          rcases hy with ⟨rfl, rfl⟩ | ⟨ny, hy⟩
          · refine ⟨_, rfl, rfl, _, congrArg V.bl (decide_eq_true rfl), iteT ⟨ys, hD, ly, _, same_put s6 nD, upd_same, ?_⟩⟩
            rw [take_one hd']
            exact hA.append (.cons (.str _) .nil)
          · refine ⟨_, rfl, rfl, _, congrArg V.bl (decide_eq_false ny), iteF ⟨_, rfl, ys, hD, ly, _, same_put s6 nD, upd_same, ?_⟩⟩
            rw [take_one hd']
            exact hA.append (.cons hy .nil)
        · rintro H6 ⟨ys, s6, hD, hA⟩
          refine ⟨_, _, rfl, .lst hD (hA.grow s6), .inl w2, rfl, _, congrArg V.bl (ne_self _), kQ _ _ ⟨rfl, s6⟩⟩
      rintro H6 ⟨_, s6⟩
      replace hpu5 := s6 _ _ hpu5
      replace hxu5 := hxu5.keep (TupK.same s6)
      replace hyu5 := hyu5.keep (TupK.same s6)
      replace m := m.same s6
      refine go_nx ?_
      refine a_if1 (fun b H' => b = false ∧ Same H6 H') (fun Q' kQ => ?_) (fun H' h => nomatch h.1) (fun H7 h7 => ?_)
      · refine or_no (fun H' => Same H6 H') (fun Q2 k2 => ?_) (fun L1 s1 => ?_)
        · cases h : pairZ zt' with
          | none =>
            rw [h] at hxu5
            exact ⟨_, rfl, _, _, _, _, rfl, rfl, SqL.of hpu5, atI_nat (j := 0) rfl, rfl, _, congrArg V.bl (by rw [show xu = .non from hxu5]; rfl), iteF (k2 _ (Same.refl _))⟩
          | some f =>
            have ef := text_pairZ h
            have bf := b1 f h
            rw [h] at hxu5
            obtain ⟨q, rfl, hq⟩ := hxu5
            refine ⟨_, rfl, _, _, _, _, rfl, rfl, SqL.of hpu5, atI_nat (j := 0) rfl, rfl, true, congrArg V.bl (by rw [decide_eq_false (fun z : V.ref q = V.non => V.noConfusion z)]; rfl), iteT ?_⟩
            refine ⟨_, rfl, _, _, _, _, rfl, rfl, SqL.of hpu5, atI_nat (j := 0) rfl, _, f, rfl, .tup hq (.cons (.int _) (.cons (.int _) .nil)), bf, fun L s => ⟨_, rfl, rfl, _, congrArg V.bl (by rw [ef]; exact ne_self _), k2 _ s⟩⟩
        · cases o2 with
          | none => exact ⟨_, rfl, _, _, _, _, rfl, rfl, SqL.of (s1 _ _ hpu5), atI_nat (j := 1) rfl, rfl, _, congrArg V.bl (by rw [show yu = .non from hyu5]; rfl), iteF (kQ _ _ ⟨rfl, s1⟩)⟩
          | some fs =>
            have ef := is_row_text ((ho2 fs).mpr rfl)
            have bf := b2 fs rfl
            have hr1 : RowAt H6 yu fs := hyu5
            have ny : yu ≠ .non := by
              obtain ⟨a, xs, rfl, _⟩ := hr1
              exact V.noConfusion
            refine ⟨_, rfl, _, _, _, _, rfl, rfl, SqL.of (s1 _ _ hpu5), atI_nat (j := 1) rfl, rfl, true, congrArg V.bl (by rw [decide_eq_false ny]; rfl), iteT ?_⟩
            refine ⟨_, rfl, _, _, _, _, rfl, rfl, SqL.of (s1 _ _ hpu5), atI_nat (j := 1) rfl, _, fs, rfl, hr1.grow s1, bf, fun L s => ⟨_, rfl, rfl, _, congrArg V.bl (by rw [ef]; exact ne_self _), kQ _ _ ⟨rfl, s1.trans s⟩⟩⟩
      · exact ⟨_, _, _, _, _, _, _, _, _, zt', zl', rfl, by omega, by omega, q2, q4, m.same h7.2⟩
    · rintro σ H' ⟨v1, v2, v3, v4, v5, v6, v7, v10, v11, zt, zl, rfl, lt, ll, at_, al, m⟩
      exact k H' m
end

end G

set_option Elab.async false
set_option linter.all false
set_option maxRecDepth 100000
set_option maxHeartbeats 4000000
namespace G
open PySem PySem.Spec PyProof.Rows L2
open PyProof in
/-- a text times a number above 1 -/
def repS (i : Str) (n : Nat) : Str := ⟨(List.replicate n i.cps).foldl (· ++ ·) #[]⟩
theorem size_repS (a : Array Nat) (n : Nat) : ((List.replicate n a).foldl (· ++ ·) #[]).size = n * a.size := by
  have key : ∀ (n : Nat) (b : Array Nat), ((List.replicate n a).foldl (· ++ ·) b).size = b.size + n * a.size := by
    intro n
    induction n with
    | zero => intro b; simp
    | succ n ih =>
      intro b
      rw [List.replicate_succ, List.foldl_cons, ih, Array.size_append, Nat.add_mul]
      omega
  have := key n #[]
  simpa using this
section
variable {X : Cx}
theorem op_strmulN : OpR X (binaryOp .Mult) (fun x y H Q => ∃ (i : Str) (n : Int), x = .str i ∧ y = .int n ∧ 2 ≤ n ∧ n ≤ 1000 ∧ 0 < i.length ∧ i.length ≤ 1000 ∧ Q (.str (repS i n.toNat)) H) := by
  intro pins s σ H x y v u Q I rx ry h
  obtain ⟨i, n, rfl, rfl, h1, h2, h3, h4, q⟩ := h
  obtain ⟨t, rfl⟩ := rx
  obtain ⟨t', rfl⟩ := ry
  have e1 : (n == 1 || i.length == 0) = false := by
    rw [Bool.or_eq_false_iff]
    exact ⟨by simpa using (by omega : n ≠ 1), by simpa using (by omega : i.length ≠ 0)⟩
  refine PySem.P.mul_str ?_ (fun _ _ z => ?_) (fun _ _ => ?_) ?_
  · rw [decide_eq_false (by omega), decide_eq_false (by omega)]
    rfl
  · have : (1000 : Int) ≤ (2 ^ 63 - 1) / n := Int.le_ediv_of_mul_le (by omega) (by omega)
    omega
  · have : i.length * n.toNat ≤ 1000 * 1000 := Nat.mul_le_mul h4 (by omega)
    have sz : sizeLine = 16777216 := sizeLine_eq
    unfold Builtin.Str.tooLong
    refine decide_eq_false ?_
    omega
  · rw [if_neg (by omega), if_neg (by rw [e1]; exact Bool.false_ne_true)]
    have sz : sizeLine = 16777216 := sizeLine_eq
    refine ⟨?_, .str _, H, I.tok _, ⟨_, rfl⟩, q⟩
    show Array.size _ ≤ sizeLine
    rw [size_repS]
    have : n.toNat * i.length ≤ 1000 * 1000 := Nat.mul_le_mul (by omega) h4
    show n.toNat * i.length ≤ sizeLine
    omega
end
def long4 : Str := cutS (repS "1.0 " 200) none (some 799)
open TL
theorem join_one (n : Nat) : tl (Txt.join " " (List.replicate n ("1.0" : Str))) = joinL [32] (List.replicate n [49, 46, 48]) := by
  rw [TL.join_eq, tl_join, List.map_replicate]
  rfl
theorem long_tl : tl long4 = joinL [32] (List.replicate 200 [49, 46, 48]) := by decide +kernel
theorem long_eq : long4 = Txt.join " " (List.replicate 200 ("1.0" : Str)) := ext_tl (by rw [join_one, long_tl])
theorem long2_eq : long4 ++ (" 1.0" : Str) = Txt.join " " (List.replicate 201 ("1.0" : Str)) := ext_tl (by
  rw [join_one, tl_append, long_tl]
  decide +kernel)
theorem one_tl : tl ("1.0" : Str) = [49, 46, 48] := by decide +kernel
theorem split_ones {n : Nat} (h : 0 < n) : Txt.split (Txt.join " " (List.replicate n ("1.0" : Str))) " " = List.replicate n ("1.0" : Str) := by
  refine split_join (s := 32) (S := []) (by decide +kernel) blank_one.2.1 (fun e => ?_) fun p hp hm => ?_
  · have := congrArg List.length e
    rw [List.length_replicate] at this
    simp at this
    omega
  · rw [List.eq_of_mem_replicate hp, one_tl] at hm
    revert hm
    decide
theorem one_pair : ("1.0" : Str) = pairT (1, 0) := ext_tl (by
  unfold pairT
  rw [tl_append, tl_append, tl_text, tl_text, if_neg (by decide), if_neg (by decide)]
  show _ = ([] ++ numL 1 ++ _) ++ ([] ++ numL 0)
  rw [numL_lt (by decide), numL_lt (by decide)]
  decide +kernel)
theorem pair_one : pairZ ("1.0" : Str) = some (1, 0) := by
  rw [one_pair]
  exact pairZ_text (by unfold BigF BIG; omega)
theorem long_ne : long4 ≠ "-" := fun e => by
  have := congrArg tl e
  rw [long_tl] at this
  revert this
  decide +kernel
theorem long_row : rowB (rowD (List.replicate 200 ((1 : Int), (0 : Int)))) = true := by decide +kernel
theorem long_len : long4.length ≤ 1000 := by
  rw [len_tl, long_tl]
  decide +kernel
theorem long2_len : (long4 ++ (" 1.0" : Str)).length ≤ 2000 := by
  have := long_len
  rw [Str.length_append]
  have e : Str.length (" 1.0" : Str) = 4 := by decide +kernel
  omega
theorem long_is : RowIs long4 (List.replicate 200 (1, 0)) := .inr ⟨long_ne, by rw [long_eq, split_ones (by decide), List.map_replicate, List.map_replicate, pair_one], long_row⟩
theorem long_not (fs : List (Int × Int)) : ¬ RowIs (long4 ++ (" 1.0" : Str)) fs := by
  rintro (⟨e, _⟩ | ⟨_, e, h⟩)
  · have := congrArg Str.length e
    rw [len_tl, tl_append, long_tl] at this
    revert this
    decide +kernel
  · have l := congrArg List.length e
    rw [List.length_map, long2_eq, split_ones (by decide), List.length_replicate, List.length_map] at l
    have := (row_bounds h).1
    omega
end G

set_option Elab.async false
set_option linter.all false
set_option maxRecDepth 100000
set_option maxHeartbeats 4000000
namespace G
open PySem PySem.Spec PyProof.Rows L2
def ODD4 : List PyData := [.none, .int 0, .tuple [], .tuple [.int 1, .int 2], .list [.str "1.2"], .dict [], .bool true, .str "", .str " ", .str "1", .str "1.2.3", .str "-0.1", .str "01.1", .str "1 .2"]
open TL in
def okP (l : List Nat) : Bool := decide ((spl [46] 0 [] l).length = 2) && (spl [46] 0 [] l).all numOkL
open TL in
theorem pair_okP {z : Str} {f : Int × Int} (e : pairZ z = some f) : okP (tl z) = true := by
  obtain ⟨_, b, s⟩ := pair_some e
  have m := split_spl z "." dot_one.1 (kind_ok dot_one.2.1)
  rw [s, show tl ("." : Str) = [46] by decide +kernel] at m
  unfold okP
  rw [← m]
  simp [(num_out b.1 b.2.1).1, (num_out b.2.2.1 b.2.2.2).1]
open TL in
theorem row_okP {z : Str} {fs : List (Int × Int)} (h1 : z ≠ "-") (h : RowIs z fs) : (spl [32] 0 [] (tl z)).all okP = true := by
  rcases h with ⟨e, _⟩ | ⟨_, e, _⟩
  · exact absurd e h1
  · have m := split_spl z " " blank_one.1 (kind_ok blank_one.2.1)
    rw [show tl (" " : Str) = [32] by decide +kernel] at m
    rw [← m, List.all_eq_true]
    intro p hp
    obtain ⟨q, hq, rfl⟩ := List.mem_map.mp hp
    have : pairZ q ∈ (Txt.split z " ").map pairZ := List.mem_map_of_mem hq
    rw [e] at this
    obtain ⟨f, _, hf⟩ := List.mem_map.mp this
    exact pair_okP hf.symm
open TL in
theorem odd_lit : ∀ z ∈ [("" : Str), " ", "1", "1.2.3", "-0.1", "01.1", "1 .2"], z.length ≤ 1000000 ∧ z ≠ "-" ∧ okP (tl z) = false ∧ (spl [32] 0 [] (tl z)).all okP = false := by decide +kernel
theorem odd_facts : ∀ d ∈ ODD4, (∀ z, d = .str z → z.length ≤ 1000000) ∧ (∀ z f, d = .str z → pairZ z ≠ some f) ∧ ∀ z fs, d = .str z → ¬ RowIs z fs := by
  intro d h
  cases d with
  | str z =>
    have hz : z ∈ [("" : Str), " ", "1", "1.2.3", "-0.1", "01.1", "1 .2"] := by
      unfold ODD4 at h
      simpa using h
    obtain ⟨a, b, c, e⟩ := odd_lit z hz
    refine ⟨fun z' q => ?_, fun z' f q t => ?_, fun z' fs q t => ?_⟩
    · injection q with q
      subst q
      exact a
    · injection q with q
      subst q
      rw [pair_okP t] at c
      cases c
    · injection q with q
      subst q
      rw [row_okP b t] at e
      cases e
  | _ => exact ⟨fun z e => (nomatch e), fun z f e => (nomatch e), fun z fs e => (nomatch e)⟩
/-- the law's own def with lambdas in it -/
theorem lawOkTC {P : Program} {w : World} {K : PySem.W.Frag} {mg : Str → Option Value} {x y : Str} {st : Stmt} {N : List Str} {k : Nat} {sp : Sp} {fa c : Addr} {cs : List (Addr × Addr)}
    (hf : mg x = some (.ref fa)) (D : DefAtC K mg x st [y] c) (S : FnScope N [y] (defScope st)) (len : ∀ xs H Q E, sp xs H Q E → xs.length = [y].length)
    (hbody : ∀ base : Heap, K.In base → base.Ns mainGlobals mg → (∀ p ∈ cs, LamX.TabB base mg p.1 p.2) → ∀ (f : Addr) (A : Around) (out : List Env) (s : Shared) (H : Hp) (xs : List V) (Q : VK) (E : XK), A.guards = some [] →
      Room k (A.deeper (envOfC x (defScope st) s.heap.objs.size f (.ref c))) → sp xs H Q E →
      ∃ t, PSs (cxOf CX0 P w K mg base N x (defScope st) f (.ref c) A out s H E).nox (defBody st) t ∧
        t { nx := fun _ H' => Q .non H', rt := Q } (start N xs) H) :
    ∃ fd : FuncData, (∀ (s : Shared) (u : Value), BindsTo s fd ⟨[u], []⟩ [(y, u)]) ∧
      ∀ base : Heap, K.In base → base.Ns mainGlobals mg → (∀ p ∈ cs, LamX.TabB base mg p.1 p.2) → FnG P w K mg base CX0 (k + 1) fa fd [y] sp := by
  obtain ⟨f, oc, od, an, osl, kV, doc, pm, ct, l, cd, kp, m, b⟩ := D.ex
  obtain rfl : f = fa := by
    rw [m] at hf
    cases hf
    rfl
  exact ⟨_, fun s u => .of_eq (b [u] rfl), fun base h1 h2 h3 => okGC l cd S len (hbody base h1 h2 h3 f)⟩
def spLawT (K : PySem.W.Frag) (T : List (Addr × Str)) : Sp := fun vs H Q _ => ∃ (a : Addr) (ns : List Int), vs = [.ref a] ∧ SqL K H a (ns.map V.int) ∧ ns.length ≤ 63 ∧ LamX.Tabs T H ∧ ∀ H', Q (.bl true) H'
theorem sql_ext {K : PySem.W.Frag} {H H' : Hp} {a : Addr} {xs : List V} (e : LamX.ExtN H H') (h : SqL K H a xs) : SqL K H' a xs := by
  rcases h with (h | ⟨o, h⟩) | h
  · exact .inl (.inl (e _ _ h fun _ z => by cases z))
  · exact .inl (.inr ⟨o, e _ _ h fun _ z => by cases z⟩)
  · exact .inr h
theorem MvT.out {T : List (Addr × Str)} {d : Addr} {H H' : Hp} {o : HO} (n : H d = none) (m : MvT T d (upd H d o) H') : LamX.ExtN H H' := fun b u e k => by
  have nb : b ≠ d := ne_of_none e n
  have q := m.ext b u (by rw [hide_ne nb, upd_ne nb]; exact e) k
  rw [hide_ne nb] at q
  exact q
theorem tabs_new {T : List (Addr × Str)} {H : Hp} {p : Addr} {o : HO} (t : LamX.Tabs T H) (n : H p = none) : LamX.Tabs T (upd H p o) := t.ext (same_new n)
theorem FormsAt.rep {H : Hp} {p : Addr} (h : H p = some (.tup [.int 1, .int 0])) : ∀ n : Nat, FormsAt H (List.replicate n [V.ref p]).flatten (List.replicate n (1, 0))
  | 0 => .nil
  | n + 1 => by
    rw [List.replicate_succ, List.replicate_succ, List.flatten_cons]
    exact .cons h (FormsAt.rep h n)
theorem eqv_ones : PyData.eqv (rowD (List.replicate 200 (1, 0))) (rowD (List.replicate 200 (1, 0))) = true := by decide +kernel
section
variable {P : Program} {w : World} {K : PySem.W.Frag} {mg : Str → Option Value}
theorem c_law {fa CP fI cR PR cL PL : Addr} (T : Txt K mg) (hf : mg "law" = some (.ref fa)) (hne : PR ≠ PL) (M : ReadTxt K mg CP) (O : OwnParseError.Txt K mg CP fI)
    (D_is_integer : DefAt K mg "is_integer" s_is_integer ["value"])
    (D_is_pair_within : DefAt K mg "is_pair_within" s_is_pair_within ["value", "least", "greatest"])
    (D_mirrored_pair : DefAt K mg "mirrored_pair" s_mirrored_pair ["pair"])
    (D_pair_of : DefAt K mg "pair_of" s_pair_of ["text"])
    (D_is_pair : DefAt K mg "is_pair" s_is_pair ["value"])
    (D_is_form : DefAt K mg "is_form" s_is_form ["value"])
    (D_are_forms : DefAt K mg "are_forms" s_are_forms ["value"])
    (D_is_row : DefAt K mg "is_row" s_is_row ["value"])
    (D_check_row : DefAt K mg "check_row" s_check_row ["row"])
    (D_integer_of : DefAt K mg "integer_of" s_integer_of ["text"])
    (D_write_pair : DefAt K mg "write_pair" s_write_pair ["pair"])
    (D_write_row : DefAt K mg "write_row" s_write_row ["row"])
    (D_mirrored_row : DefAt K mg "mirrored_row" s_mirrored_row ["row"])
    (D_read_pair : DefAt K mg "read_pair" s_read_pair ["text"])
    (D_read_row : DefAt K mg "read_row" s_read_row ["text"])
    (D__law_dice : DefAt K mg "_law_dice" s__law_dice ["_law_script", "_law_spot"])
    (D__law_roll : DefAt K mg "_law_roll" s__law_roll ["_law_dice_here", "_law_total"])
    (D__law_pick : DefAt K mg "_law_pick" s__law_pick ["_law_dice_here", "_law_items"])
    (D__law_pair_text : DefAt K mg "_law_pair_text" s__law_pair_text ["_law_pair"])
    (D__law_row_text : DefAt K mg "_law_row_text" s__law_row_text ["_law_row"])
    (D__law_cut : DefAt K mg "_law_cut" s__law_cut ["_law_forms"])
    (D__law_some_form : DefAt K mg "_law_some_form" s__law_some_form ["_law_dice_here", "_law_high"])
    (D__law_some_row : DefAt K mg "_law_some_row" s__law_some_row ["_law_dice_here", "_law_levels", "_law_high"])
    (D__law_read : DefAt K mg "_law_read" s__law_read ["_law_call"])
    (D__law_whole : DefAt K mg "_law_whole" s__law_whole ["_law_text"])
    (D__law_pair_read : DefAt K mg "_law_pair_read" s__law_pair_read ["_law_text"])
    (D__law_row_read : DefAt K mg "_law_row_read" s__law_row_read ["_law_text"])
    (D__law_bent : DefAt K mg "_law_bent" s__law_bent ["_law_dice_here", "_law_text"])
    (DC_right : DefAtC K mg "_law_right" s__law_right ["_law_dice_here"] cR) (DC_law : DefAtC K mg "law" s_law ["_law_script"] cL) :
    ∃ fd : FuncData, (∀ (s : Shared) (u : Value), BindsTo s fd ⟨[u], []⟩ [("_law_script", u)]) ∧
      ∀ base : Heap, K.In base → base.Ns mainGlobals mg → (∀ p ∈ [(cR, PR), (cL, PL)], LamX.TabB base mg p.1 p.2) → FnG P w K mg base CX0 13 fa fd ["_law_script"] (spLawT K (tabs4 PR PL)) := by
  refine lawOkTC hf DC_law sc_law (fun xs H Q E h => ?_) (fun base hK hN hTB f A out s H xs Q E hgd hr h => ?_)
  · obtain ⟨a, ns, rfl, _⟩ := h
    rfl
  · obtain ⟨a, ns, rfl, hS, hlen, hT, k⟩ := h
    have nd := sc_law.nd
    have TBR : LamX.TabB base mg cR PR := hTB (cR, PR) List.mem_cons_self
    have TB : LamX.TabB base mg cL PL := hTB (cL, PL) (List.mem_cons_of_mem _ List.mem_cons_self)
    have hmT : (PL, (envOfC "law" (defScope s_law) 0 0 .none).qual ++ "<lambda>") ∈ tabs4 PR PL := List.mem_cons_of_mem _ List.mem_cons_self
    have huT : ∀ p ∈ tabs4 PR PL, p.1 = PL → p.2 = (envOfC "law" (defScope s_law) 0 0 .none).qual ++ "<lambda>" := fun p hp e => by
      rcases List.mem_cons.mp hp with z | z
      · rw [z] at e
        exact absurd e hne
      · rw [List.mem_singleton.mp z]
    have D_law_read := D__law_read
    have C_is_integer : CalQ false P w K mg base 1 "is_integer" ["value"] (spJ intB) := c_is_integer T D_is_integer
    have C_is_pair : CalQ false P w K mg base 2 "is_pair" ["value"] (spJ pairB) := c_is_pair T C_is_integer D_is_pair
    have C_is_pair_within : CalQ false P w K mg base 3 "is_pair_within" ["value", "least", "greatest"] spPairWithin := c_is_pair_within T C_is_pair D_is_pair_within
    have C_is_form : CalQ false P w K mg base 4 "is_form" ["value"] (spJ formB) := c_is_form T C_is_pair_within D_is_form
    have C_are_forms : CalQ false P w K mg base 5 "are_forms" ["value"] (spJ formsB) := c_are_forms T C_is_form D_are_forms
    have C_is_row : CalQ false P w K mg base 6 "is_row" ["value"] (spJ rowB) := c_is_row T C_are_forms D_is_row
    have C_check_row : CalQ false P w K mg base 7 "check_row" ["row"] spRightRow := c_check_row T C_is_row D_check_row
    have C_integer_of : CalQ false P w K mg base 1 "integer_of" ["text"] spWhole := c_integer_of T D_integer_of
    have C_write_pair : CalQ false P w K mg base 3 "write_pair" ["pair"] spWritePair := c_write_pair T C_is_pair D_write_pair
    have C_write_row : CalQ false P w K mg base 8 "write_row" ["row"] spWriteRow := c_write_row T C_check_row D_write_row
    have C_mirrored_row : CalQ false P w K mg base 8 "mirrored_row" ["row"] spMirrorR := c_mirrored T (c_mirrored_pair T D_mirrored_pair) C_check_row D_mirrored_row
    have C_pair_of : CalQ false P w K mg base 3 "pair_of" ["text"] spPairOf2 := c_pair_of2 T C_integer_of C_is_pair D_pair_of
    have C_read_pairR : CalQ false P w K mg base 4 "read_pair" ["text"] spReadPairR := c_read_pair T C_pair_of D_read_pair
    have C_read_rowR : CalQ false P w K mg base 7 "read_row" ["text"] spReadRowR := c_read_row T C_read_pairR C_is_row D_read_row
    have C_read_pair : CalXQ false P w K mg base 4 "read_pair" ["text"] (spReadPair CP) := x_read_pair T O C_pair_of D_read_pair
    have C_read_row : CalXQ false P w K mg base 7 "read_row" ["text"] (spReadRow CP) := x_read_row T O C_read_pair C_is_row D_read_row
    have C__law_dice : CalG P w K mg base 1 "_law_dice" ["_law_script", "_law_spot"] (spDice K) := c_dice T D__law_dice
    have C__law_roll : CalG P w K mg base 1 "_law_roll" ["_law_dice_here", "_law_total"] spRoll := c_roll T D__law_roll
    have C__law_pick : CalG P w K mg base 2 "_law_pick" ["_law_dice_here", "_law_items"] (spPick K) := c_pick T C__law_roll D__law_pick
    have C_pickS : CalG P w K mg base 2 "_law_pick" ["_law_dice_here", "_law_items"] spPickS := c_pickS T C__law_roll D__law_pick
    have C__law_cut := c_cut (P := P) (w := w) (base := base) T D__law_cut
    have C__law_some_form := c_some_form (P := P) (w := w) (base := base) T C__law_roll D__law_some_form
    have C__law_some_row := c_some_row (P := P) (w := w) (base := base) T C__law_roll C__law_some_form C__law_cut D__law_some_row
    have C__law_pair_text := c_pair_text (P := P) (w := w) (base := base) T D__law_pair_text
    have C__law_row_text := c_row_text (P := P) (w := w) (base := base) T C__law_pair_text D__law_row_text
    have C__law_bent := c_bent (P := P) (w := w) (base := base) T C__law_roll C_pickS D__law_bent
    have C__law_whole := c_whole (P := P) (w := w) (base := base) T D__law_whole
    have C__law_pair_read := c_pair_read (P := P) (w := w) (base := base) T C__law_whole D__law_pair_read
    have C__law_row_read := c_row_read (P := P) (w := w) (base := base) T C__law_pair_read D__law_row_read
    have C__law_right : CalG P w K mg base 12 "_law_right" ["_law_dice_here"] (spTrue4 (tabs4 PR PL)) := c_right T hne M O TBR C__law_pick C__law_roll C__law_some_row C__law_pair_text C__law_row_text C_write_pair.g C_write_row.g C_mirrored_row.g C_read_pairR.g C_read_rowR.g C_read_pair C_read_row C__law_bent C__law_pair_read C__law_row_read D_law_read DC_right
    have C_read_row' := C_read_rowR.g
    refine ⟨_, (pss_cons (ps_for PassesOwn.never rfl (pi_range1 rfl T.range (pa_cons (pe_callB (call_max2 rfl) (by rfl) T.max (by decide +kernel) (pa_cons pe_int (pa_cons (pe_callB (call_min2 rfl) (by rfl) T.min (by decide +kernel) (pa_cons pe_int (pa_cons (pe_callB call_len_seq (by rfl) T.len (by decide +kernel) (pa_cons (pv 0) pa_nil)) pa_nil))) pa_nil))) pa_nil)) (pg_name (i := 1) nd rfl (.inl rfl)) (pss_cons (ps_set (i := 2) nd rfl (.inl rfl) (pe_k C__law_dice hgd hr (by decide) rfl (pa_cons (pv 0) (pa_cons (pv 1) pa_nil))))
        (pss_cons (ps_for PassesOwn.never rfl (pi_range1 rfl T.range (pa_cons pe_int pa_nil)) (pg_name (i := 3) nd rfl (.inl rfl)) (pss_one (ps_if (pt_not (pt_val (pe_k C__law_right hgd hr (by decide) rfl (pa_cons (pv 2) pa_nil)))) (pss_one (ps_ret pe_bl)) pss_nil)))
        (pss_cons (ps_set (i := 6) nd rfl (.inr rfl) (pe_k C__law_pick hgd hr (by decide) rfl (pa_cons (pv 2) (pa_cons (pe_lst (pa_cons pe_non (pa_cons pe_int (pa_cons (pe_tup pa_nil) (pa_cons (pe_tup (pa_cons pe_int (pa_cons pe_int pa_nil))) (pa_cons (pe_lst (pa_cons pe_str pa_nil)) (pa_cons pe_dnewK (pa_cons pe_bl (pa_cons pe_str (pa_cons pe_str (pa_cons pe_str (pa_cons pe_str (pa_cons pe_str (pa_cons pe_str (pa_cons pe_str pa_nil))))))))))))))) pa_nil))))
        (pss_cons (ps_set (i := 4) nd rfl (.inl rfl) (pe_lst (pa_cons (pe_read T M O D_law_read hgd rfl TB rfl hmT huT hr (LamX.lamS_by (sc := defScope s_law) (by decide +kernel)) rfl (fun _ _ _ _ _ => rfl) (fun A outer s H E f c' hr2 => pe_kxq (gq := false) C_read_pair (takes_of rfl rfl rfl rfl) (fun z => Bool.noConfusion z) hr2 (by decide) rfl (pa_cons (pv 6) pa_nil))) pa_nil)))
        (pss_cons (ps_expr (pe_bm PySem.F.plainAttrs_list PySem.F.slot_list_append PySem.F.type_list_append mt_append (pv 4) (pa_cons (pe_read T M O D_law_read hgd rfl TB rfl hmT huT hr (LamX.lamS_by (sc := defScope s_law) (by decide +kernel)) rfl (fun _ _ _ _ _ => rfl) (fun A outer s H E f c' hr2 => pe_kxq (gq := false) C_read_row (takes_of rfl rfl rfl rfl) (fun z => Bool.noConfusion z) hr2 (by decide) rfl (pa_cons (pv 6) pa_nil))) pa_nil)))
        (pss_one (ps_if (pt_cmpR (op_neD hr.units) (pv 4) (pe_op op_rep (pe_lst (pa_cons pe_str pa_nil)) pe_int) (nomark _)) (pss_one (ps_ret pe_bl)) pss_nil))))))))
      (pss_cons (ps_set (i := 5) nd rfl (.inr rfl) (pe_slice sl_str (pe_op op_strmulN pe_str pe_int) po_none (po_some pe_int)))
      (pss_one (ps_ret (pe_and (pe_cmpR (op_eqD hr.units) (pe_k C_read_row' hgd hr (by decide) rfl (pa_cons (pv 5) pa_nil)) (pe_op op_repT (pe_tup (pa_cons (pe_tup (pa_cons pe_int (pa_cons pe_int pa_nil))) pa_nil)) pe_int) (nomark _)) (pe_one (pe_cmpR op_eq (pe_read T M O D_law_read hgd rfl TB rfl hmT huT hr (LamX.lamS_by (sc := defScope s_law) (by decide +kernel)) rfl (fun _ _ _ _ _ => rfl) (fun A outer s H E f c' hr2 => pe_kxq (gq := false) C_read_row (takes_of rfl rfl rfl rfl) (fun z => Bool.noConfusion z) hr2 (by decide) rfl (pa_cons (pe_op op_add_str (pv 5) pe_str) pa_nil))) pe_str (nomark _)))))))), ?_⟩
    refine ⟨_, rfl, _, _, rfl, .inl hS, _, _, rfl, _, _, rfl, _, rfl, ?_, ?_, ?_⟩
    · rw [List.length_map]; split <;> split <;> omega
    · rw [List.length_map]; split <;> split <;> omega
    refine for_range (fun i σ H' => ∃ v1 v2 v3 v4 v5 v6, σ = [some (.ref a), v1, v2, v3, v4, v5, v6] ∧ LamX.ExtN H H' ∧ LamX.Tabs (tabs4 PR PL) H') ?_ ?_ ?_
    · exact ⟨_, _, _, _, _, _, rfl, LamX.ExtN.refl _, hT⟩
    · rintro i σ H0 hi ⟨v1, v2, v3, v4, v5, v6, rfl, e0, t0⟩
      refine ⟨_, rfl, _, rfl, a, ns, i, (by show [V.ref a, V.int (0 + (i : Int))] = _; rw [Int.zero_add]), sql_ext e0 hS, Nat.le_trans hlen (by decide), fun d l0 q0 c0 nd0 => ?_⟩
      have dd : DiceAt (upd H0 d (.lst [.int l0, .int q0, .int c0])) d := ⟨_, _, _, upd_same⟩
      have tn := tabs_new (o := .lst [.int l0, .int q0, .int c0]) t0 nd0
      refine ⟨4, rfl, (by decide), (by decide), ?_⟩
      refine for_range (fun i σ H' => ∃ v1 v3 v4 v5 v6, σ = [some (.ref a), v1, some (.ref d), v3, v4, v5, v6] ∧ MvT (tabs4 PR PL) d (upd H0 d (.lst [.int l0, .int q0, .int c0])) H') ?_ ?_ ?_
      · exact ⟨_, _, _, _, _, rfl, MvT.refl dd tn⟩
      · rintro i' σ H1 hi' ⟨v1, v3, v4, v5, v6, rfl, m0⟩
        refine a_if1 (fun b H' => b = false ∧ MvT (tabs4 PR PL) d (upd H0 d (.lst [.int l0, .int q0, .int c0])) H') (fun Q' kQ => ?_) (fun H' h => nomatch h.1) (fun H6 h => ?_)
        · exact ⟨_, rfl, d, rfl, m0.dice, m0.tabs, fun H2 m2 => ⟨_, rfl, kQ _ _ ⟨rfl, m0.trans m2⟩⟩⟩
        · exact ⟨_, _, _, _, _, rfl, h.2⟩
      rintro σ H1 ⟨v1, v3, v4, v5, v6, rfl, m⟩
      refine go_nx ?_
      refine a_set (fun v H' => ∃ dat, dat ∈ ODD4 ∧ Dx (hide d H') v dat ∧ MvT (tabs4 PR PL) d (upd H0 d (.lst [.int l0, .int q0, .int c0])) H') (fun Q' kQ => ?_) ?_
      · refine ⟨_, rfl, (by show 0 ≤ sizeLine; decide), fun p1 n1 => ?_⟩
        obtain ⟨m, x1, gr⟩ := newT m n1 .nil
        clear gr
        refine ⟨(by show 2 ≤ sizeLine; decide), fun p2 n2 => ?_⟩
        obtain ⟨m, x2, gr⟩ := newT m n2 (.cons (.int _) (.cons (.int _) .nil))
        replace x1 := gr x1
        clear gr
        refine ⟨(by show 1 ≤ sizeLine; decide), fun p3 n3 => ?_⟩
        obtain ⟨m, x3, gr⟩ := newL m n3 (.cons (.str _) .nil)
        replace x1 := gr x1
        replace x2 := gr x2
        clear gr
        refine fun p4 n4 => ?_
        obtain ⟨m, x4, gr⟩ := newD m n4
        replace x1 := gr x1
        replace x2 := gr x2
        replace x3 := gr x3
        clear gr
        refine ⟨(by show 14 ≤ sizeLine; decide), fun p5 n5 => ?_⟩
        obtain ⟨m, x5, gr⟩ := newL m n5 (.cons .non (.cons (.int _) (.cons x1 (.cons x2 (.cons x3 (.cons x4 (.cons (.bl _) (.cons (.str _) (.cons (.str _) (.cons (.str _) (.cons (.str _) (.cons (.str _) (.cons (.str _) (.cons (.str _) .nil))))))))))))))
        clear gr
        obtain ⟨xs, ha, ne, hxs⟩ := lst_in x5
        refine ⟨d, p5, xs, rfl, m.dice, SqL.of ha, ne, (by rw [hxs.len]; show 0 < 14; decide), (by rw [hxs.len]; show 14 ≤ 1000; decide), fun j x H9 ej mm _ => ?_⟩
        obtain ⟨dat, hm, hx⟩ := picked hxs mm ej
        exact kQ _ _ ⟨dat, hm, hx, m.mv mm⟩
      rintro vO H2 ⟨dO, hO, xO, m⟩
      obtain ⟨hL, nP, nR⟩ := odd_facts dO hO
      have n := MvT.refl m.dice m.tabs
      refine a_set (fun v H' => ∃ p, v = .ref p ∧ p ≠ d ∧ NewAt H2 p ∧ H' p = some (.lst ([("none None" : Str)].map V.str)) ∧ MvT (tabs4 PR PL) d H2 H') (fun Q' kQ => ?_) ?_
      · refine ⟨n.tabs, fun L1 e1 t1 => ?_⟩
        replace n := n.lam e1 t1
        refine ⟨_, rfl, ?_⟩
        refine ⟨vO, dO, rfl, (n.dx xO).seen, hL, fun z f e h => absurd h (nP z f e), fun _ L2 dd s2 nd => ⟨rfl, dd, rfl, upd_same, ?_⟩⟩
        replace n := (n.same s2).new (o := .xd [(("number" : Str), .non)]) nd
        exact ⟨(by show 1 ≤ sizeLine; decide), fun p np => kQ _ _ ⟨p, rfl, n.dice.ne np, n.newAt np, upd_same, n.new np⟩⟩
      rintro _ H3 ⟨p, rfl, pd, pn, hp, n⟩
      refine a_expr (fun H' => H' p = some (.lst ([("none None" : Str), "none None"].map V.str)) ∧ MvT (tabs4 PR PL) d H2 H') (fun Q' kQ => ?_) (fun H4 h4 => ?_)
      · refine ⟨_, rfl, .inl ⟨rfl, _, SqL.of hp⟩, n.tabs, fun L1 e1 t1 => ?_⟩
        replace n := n.lam e1 t1
        replace hp := ext_lst e1 hp
        refine ⟨_, rfl, ?_⟩
        refine ⟨vO, dO, rfl, (n.dx xO).seen, hL, fun z fs e h => absurd h (nR z fs e), fun _ L2 dd s2 nd => ⟨rfl, dd, rfl, upd_same, ?_⟩⟩
        replace hp := same_new (o := .xd [(("number" : Str), .non)]) nd _ _ (s2 _ _ hp)
        replace n := (n.same s2).new (o := .xd [(("number" : Str), .non)]) nd
        exact ⟨p, _, _, rfl, rfl, hp, (by show 1 < sizeLine; decide), kQ _ _ ⟨upd_same, n.put2 pn pd hp⟩⟩
      clear hp n
      obtain ⟨hp, n⟩ := h4
      have okN : ∀ w ∈ [("none None" : Str), "none None"], PyData.strOk w = true := by decide +kernel
      refine a_if1 (fun b H' => b = false ∧ Same H4 H') (fun Q' kQ => ?_) (fun H' h => nomatch h.1) (fun H5 h5 => ?_)
      · refine ⟨_, rfl, (by show 1 ≤ sizeLine; decide), fun q2 n2 => ?_⟩
        have s1 := same_new (o := .lst [.str "none None"]) n2
        refine ⟨q2, 2, _, rfl, rfl, upd_same, (by decide), (by decide), (by show 1 * 2 ≤ sizeLine; decide), fun q3 n3 => ?_⟩
        have s2 := same_new (o := .lst (List.replicate (Int.toNat 2) [V.str "none None"]).flatten) n3
        refine ⟨_, _, strsX _ (s2 _ _ (s1 _ _ hp)) K, strsX [("none None" : Str), "none None"] upd_same K, shaped_strs _ okN, shaped_strs _ okN, _, congrArg V.bl (by rw [eqv_strs]; rfl), kQ _ _ ⟨rfl, s1.trans s2⟩⟩
      · exact ⟨_, _, _, _, _, _, rfl, e0.trans (MvT.out nd0 ((m.trans n).same h5.2)), ((m.trans n).same h5.2).tabs⟩
    · rintro σ H0 ⟨v1, v2, v3, v4, v5, v6, rfl, e0, t0⟩
      have sz : sizeLine = 16777216 := sizeLine_eq
      refine go_nx ?_
      refine a_set (fun v H' => v = .str long4 ∧ H0 = H') (fun Q' kQ => ?_) ?_
      · refine ⟨_, _, rfl, rfl, (by decide), (by decide), (by decide +kernel), (by decide +kernel), _, rfl, _, rfl, ?_, kQ _ _ ⟨rfl, rfl⟩⟩
        have : (repS "1.0 " 200).length ≤ 1000 := by decide +kernel
        exact Nat.le_trans this (by omega)
      rintro _ _ ⟨rfl, rfl⟩
      refine ⟨_, rfl, long4, _, rfl, (by have := long_len; omega), long_is, fun v L1 s1 hv => ?_⟩
      refine ⟨(by show 2 ≤ sizeLine; decide), fun p1 n1 => ⟨(by show 1 ≤ sizeLine; decide), fun p2 n2 => ?_⟩⟩
      refine ⟨p2, 200, _, rfl, rfl, SqT.of upd_same, List.cons_ne_nil _ _, (by decide), (by decide), (by show 1 ≤ 1000; decide), fun p3 n3 => ?_⟩
      have g1 := same_new (o := .tup [.int 1, .int 0]) n1
      have g2 := same_new (o := .tup [.ref p1]) n2
      have g3 := same_new (o := .tup (List.replicate (Int.toNat 200) [V.ref p1]).flatten) n3
      have hr2 : RowAt _ (.ref p3) (List.replicate 200 (1, 0)) := ⟨p3, _, rfl, upd_same, FormsAt.rep (g3 _ _ (g2 _ _ upd_same)) 200⟩
      refine ⟨_, _, (hv.grow ((g1.trans g2).trans g3)).dx0.dp (noDictT _), hr2.dx0.dp (noDictT _), shapedT _, shapedT _, _, congrArg V.bl eqv_ones, iteT ?_⟩
      refine ⟨(t0.ext (((s1.trans g1).trans g2).trans g3)), fun L2 e2 t2 => ?_⟩
      refine ⟨_, rfl, _, _, rfl, rfl, ?_, ?_⟩
      · have := long2_len
        rw [Str.length_append] at this
        exact Nat.le_trans this (by omega)
      refine ⟨_, _, rfl, .str _, fun z e => ?_, fun z fs e h => ?_, fun _ L3 dd s3 nd => ⟨rfl, dd, rfl, upd_same, rfl, ?_⟩⟩
      · injection e with e
        subst e
        have := long2_len
        omega
      · injection e with e
        subst e
        exact absurd h (long_not fs)
      · show Q (.bl (decide (V.str "none None" = V.str "none None"))) _
        rw [decide_eq_true rfl]
        exact k _
end
end G

set_option Elab.async false
set_option linter.all false
open PySem PySem.W PyProof.Rows in
set_option maxRecDepth 100000 in
set_option maxHeartbeats 0 in
theorem PySem.Challenge.cw_fingerbooks_k04_whole_texts_of_rows_holds : PySem.Challenge.rw_fingerbooks_k04_whole_texts_of_rows.Holds := by
  w_on; o_law; k_head; (case hw => w_witness2)
  k_fill
  refine G.endGT (n := 63) (k := 13) (x := "_law_script") rfl (by decide) rfl ⟨rfl, by decide, by decide⟩ (fun w h Y => PySem.W.km_in_of Y) ?F
  case F =>
    intro w mg fa h HT KX gl hmg
    have H_law_right := HT _ "_law_right" 252 250 rfl (by kernel_rfl)
    have Hlaw := HT _ "law" 259 255 rfl (by kernel_rfl)
    refine' G.packT (cs := [(252, 250), (259, 255)]) ?tb ?tn ?tc ?sp (G.c_law (cR := 252) (PR := 250) (cL := 259) (PL := 255) ⟨PySem.W.mg_none_of KX gl ?z1, PySem.W.mg_none_of KX gl ?z2, PySem.W.mg_none_of KX gl ?z3, PySem.W.mg_none_of KX gl ?z4, PySem.W.mg_none_of KX gl ?z5, PySem.W.mg_none_of KX gl ?z6, PySem.W.mg_none_of KX gl ?z7, PySem.W.mg_none_of KX gl ?z8, PySem.W.mg_none_of KX gl ?z9, PySem.W.mg_none_of KX gl ?z10, PySem.W.mg_none_of KX gl ?z11, PySem.W.mg_none_of KX gl ?z12, PySem.W.mg_none_of KX gl ?z13, ⟨_, PySem.W.mg_of KX gl ?z14, ?z15⟩, ⟨_, PySem.W.mg_of KX gl ?z16, ?z17⟩, ⟨_, PySem.W.mg_of KX gl ?z18, ?z19⟩, ⟨_, PySem.W.mg_of KX gl ?z20, ?z21⟩⟩ hmg (by decide) ⟨PySem.W.mg_of KX gl ?z22, ?z23⟩ (OwnParseError.mk_txt KX gl ?z24 ?z25 ?z26 ?z27 ?z28 ?z29 ?z30 ?z31 ?z32 ?z33 ?z34 ?z35 ?z36 ?z37 ?z38 ?z39 ?z40 ?z41) (G.defAt KX gl ?z42 ?z43 ?z44 ?z45 ?z46) (G.defAt KX gl ?z47 ?z48 ?z49 ?z50 ?z51) (G.defAt KX gl ?z52 ?z53 ?z54 ?z55 ?z56) (G.defAt KX gl ?z57 ?z58 ?z59 ?z60 ?z61) (G.defAt KX gl ?z62 ?z63 ?z64 ?z65 ?z66) (G.defAt KX gl ?z67 ?z68 ?z69 ?z70 ?z71) (G.defAt KX gl ?z72 ?z73 ?z74 ?z75 ?z76) (G.defAt KX gl ?z77 ?z78 ?z79 ?z80 ?z81) (G.defAt KX gl ?z82 ?z83 ?z84 ?z85 ?z86) (G.defAt KX gl ?z87 ?z88 ?z89 ?z90 ?z91) (G.defAt KX gl ?z92 ?z93 ?z94 ?z95 ?z96) (G.defAt KX gl ?z97 ?z98 ?z99 ?z100 ?z101) (G.defAt KX gl ?z102 ?z103 ?z104 ?z105 ?z106) (G.defAt KX gl ?z107 ?z108 ?z109 ?z110 ?z111) (G.defAt KX gl ?z112 ?z113 ?z114 ?z115 ?z116) (G.defAt KX gl ?z117 ?z118 ?z119 ?z120 ?z121) (G.defAt KX gl ?z122 ?z123 ?z124 ?z125 ?z126) (G.defAt KX gl ?z127 ?z128 ?z129 ?z130 ?z131) (G.defAt KX gl ?z132 ?z133 ?z134 ?z135 ?z136) (G.defAt KX gl ?z137 ?z138 ?z139 ?z140 ?z141) (G.defAt KX gl ?z142 ?z143 ?z144 ?z145 ?z146) (G.defAt KX gl ?z147 ?z148 ?z149 ?z150 ?z151) (G.defAt KX gl ?z152 ?z153 ?z154 ?z155 ?z156) (G.defAt KX gl ?z157 ?z158 ?z159 ?z160 ?z161) (G.defAt KX gl ?z162 ?z163 ?z164 ?z165 ?z166) (G.defAt KX gl ?z167 ?z168 ?z169 ?z170 ?z171) (G.defAt KX gl ?z172 ?z173 ?z174 ?z175 ?z176) (G.defAt KX gl ?z177 ?z178 ?z179 ?z180 ?z181) (G.defAtC KX gl ?z182 ?z183 ?z184 ?z185 ?z186) (G.defAtC KX gl ?z187 ?z188 ?z189 ?z190 ?z191))
    (case z1 => k_is)
    (case z2 => k_is)
    (case z3 => k_is)
    (case z4 => k_is)
    (case z5 => k_is)
    (case z6 => k_is)
    (case z7 => k_is)
    (case z8 => k_is)
    (case z9 => k_is)
    (case z10 => k_is)
    (case z11 => k_is)
    (case z12 => k_is)
    (case z13 => k_is)
    (case z14 => k_is)
    (case z15 => exact ⟨_, rfl⟩)
    (case z16 => k_is)
    (case z17 => exact ⟨_, rfl⟩)
    (case z18 => k_is)
    (case z19 => exact ⟨_, rfl⟩)
    (case z20 => k_is)
    (case z21 => exact ⟨_, rfl⟩)
    (case z22 => k_is)
    (case z23 => first | k_is | kernel_rfl)
    (case z24 => k_is)
    (case z25 => k_is)
    (case z26 => decide +kernel)
    (case z27 => first | k_is | kernel_rfl)
    (case z28 => first | k_is | kernel_rfl)
    (case z29 => first | k_is | kernel_rfl)
    (case z30 => first | k_is | kernel_rfl)
    (case z31 => first | k_is | kernel_rfl)
    (case z32 => first | k_is | kernel_rfl)
    (case z33 => first | k_is | kernel_rfl)
    (case z34 => first | k_is | kernel_rfl)
    (case z35 => first | k_is | kernel_rfl)
    (case z36 => first | k_is | kernel_rfl)
    (case z37 => first | k_is | kernel_rfl)
    (case z38 => first | k_is | kernel_rfl)
    (case z39 => first | k_is | kernel_rfl)
    (case z40 => k_is)
    (case z41 => k_is)
    (case z42 => exact fun us hl => match us, hl with | [_], _ => rfl)
    (case z43 => k_is)
    (case z44 => k_is)
    (case z45 => k_is)
    (case z46 => k_is)
    (case z47 => exact fun us hl => match us, hl with | [_, _, _], _ => rfl)
    (case z48 => k_is)
    (case z49 => k_is)
    (case z50 => k_is)
    (case z51 => k_is)
    (case z52 => exact fun us hl => match us, hl with | [_], _ => rfl)
    (case z53 => k_is)
    (case z54 => k_is)
    (case z55 => k_is)
    (case z56 => k_is)
    (case z57 => exact fun us hl => match us, hl with | [_], _ => rfl)
    (case z58 => k_is)
    (case z59 => k_is)
    (case z60 => k_is)
    (case z61 => k_is)
    (case z62 => exact fun us hl => match us, hl with | [_], _ => rfl)
    (case z63 => k_is)
    (case z64 => k_is)
    (case z65 => k_is)
    (case z66 => k_is)
    (case z67 => exact fun us hl => match us, hl with | [_], _ => rfl)
    (case z68 => k_is)
    (case z69 => k_is)
    (case z70 => k_is)
    (case z71 => k_is)
    (case z72 => exact fun us hl => match us, hl with | [_], _ => rfl)
    (case z73 => k_is)
    (case z74 => k_is)
    (case z75 => k_is)
    (case z76 => k_is)
    (case z77 => exact fun us hl => match us, hl with | [_], _ => rfl)
    (case z78 => k_is)
    (case z79 => k_is)
    (case z80 => k_is)
    (case z81 => k_is)
    (case z82 => exact fun us hl => match us, hl with | [_], _ => rfl)
    (case z83 => k_is)
    (case z84 => k_is)
    (case z85 => k_is)
    (case z86 => k_is)
    (case z87 => exact fun us hl => match us, hl with | [_], _ => rfl)
    (case z88 => k_is)
    (case z89 => k_is)
    (case z90 => k_is)
    (case z91 => k_is)
    (case z92 => exact fun us hl => match us, hl with | [_], _ => rfl)
    (case z93 => k_is)
    (case z94 => k_is)
    (case z95 => k_is)
    (case z96 => k_is)
    (case z97 => exact fun us hl => match us, hl with | [_], _ => rfl)
    (case z98 => k_is)
    (case z99 => k_is)
    (case z100 => k_is)
    (case z101 => k_is)
    (case z102 => exact fun us hl => match us, hl with | [_], _ => rfl)
    (case z103 => k_is)
    (case z104 => k_is)
    (case z105 => k_is)
    (case z106 => k_is)
    (case z107 => exact fun us hl => match us, hl with | [_], _ => rfl)
    (case z108 => k_is)
    (case z109 => k_is)
    (case z110 => k_is)
    (case z111 => k_is)
    (case z112 => exact fun us hl => match us, hl with | [_], _ => rfl)
    (case z113 => k_is)
    (case z114 => k_is)
    (case z115 => k_is)
    (case z116 => k_is)
    (case z117 => exact fun us hl => match us, hl with | [_, _], _ => rfl)
    (case z118 => k_is)
    (case z119 => k_is)
    (case z120 => k_is)
    (case z121 => k_is)
    (case z122 => exact fun us hl => match us, hl with | [_, _], _ => rfl)
    (case z123 => k_is)
    (case z124 => k_is)
    (case z125 => k_is)
    (case z126 => k_is)
    (case z127 => exact fun us hl => match us, hl with | [_, _], _ => rfl)
    (case z128 => k_is)
    (case z129 => k_is)
    (case z130 => k_is)
    (case z131 => k_is)
    (case z132 => exact fun us hl => match us, hl with | [_], _ => rfl)
    (case z133 => k_is)
    (case z134 => k_is)
    (case z135 => k_is)
    (case z136 => k_is)
    (case z137 => exact fun us hl => match us, hl with | [_], _ => rfl)
    (case z138 => k_is)
    (case z139 => k_is)
    (case z140 => k_is)
    (case z141 => k_is)
    (case z142 => exact fun us hl => match us, hl with | [_], _ => rfl)
    (case z143 => k_is)
    (case z144 => k_is)
    (case z145 => k_is)
    (case z146 => k_is)
    (case z147 => exact fun us hl => match us, hl with | [_, _], _ => rfl)
    (case z148 => k_is)
    (case z149 => k_is)
    (case z150 => k_is)
    (case z151 => k_is)
    (case z152 => exact fun us hl => match us, hl with | [_, _, _], _ => rfl)
    (case z153 => k_is)
    (case z154 => k_is)
    (case z155 => k_is)
    (case z156 => k_is)
    (case z157 => exact fun us hl => match us, hl with | [_], _ => rfl)
    (case z158 => k_is)
    (case z159 => k_is)
    (case z160 => k_is)
    (case z161 => k_is)
    (case z162 => exact fun us hl => match us, hl with | [_], _ => rfl)
    (case z163 => k_is)
    (case z164 => k_is)
    (case z165 => k_is)
    (case z166 => k_is)
    (case z167 => exact fun us hl => match us, hl with | [_], _ => rfl)
    (case z168 => k_is)
    (case z169 => k_is)
    (case z170 => k_is)
    (case z171 => k_is)
    (case z172 => exact fun us hl => match us, hl with | [_], _ => rfl)
    (case z173 => k_is)
    (case z174 => k_is)
    (case z175 => k_is)
    (case z176 => k_is)
    (case z177 => exact fun us hl => match us, hl with | [_, _], _ => rfl)
    (case z178 => k_is)
    (case z179 => k_is)
    (case z180 => k_is)
    (case z181 => k_is)
    (case z182 => exact fun us hl => match us, hl with | [_], _ => rfl)
    (case z183 => k_is)
    (case z184 => k_is)
    (case z185 => k_is)
    (case z186 => k_is)
    (case z187 => exact fun us hl => match us, hl with | [_], _ => rfl)
    (case z188 => k_is)
    (case z189 => k_is)
    (case z190 => k_is)
    (case z191 => k_is)
    (case tb =>
      intro p hp
      simp only [List.mem_cons, List.not_mem_nil, or_false] at hp
      rcases hp with rfl | rfl
      · exact H_law_right.2
      · exact Hlaw.2)
    (case tc =>
      intro p hp
      simp only [List.mem_cons, List.not_mem_nil, or_false] at hp
      rcases hp with rfl | rfl
      · exact H_law_right.1
      · exact Hlaw.1)
    (case tn =>
      intro p hp
      simp only [List.mem_cons, List.not_mem_nil, or_false] at hp
      rcases hp with rfl | rfl
      · kernel_rfl
      · kernel_rfl)
    (case sp =>
      intro H a ns hl hT hS
      refine ⟨a, ns, rfl, hS, hl, fun p hp => ?_, fun _ => rfl⟩
      simp only [G.tabs4, List.mem_cons, List.not_mem_nil, or_false] at hp
      rcases hp with rfl | rfl
      · exact LamX.TabS.nil (hT (252, 250) (by simp))
      · exact LamX.TabS.nil (hT (259, 255) (by simp)))

