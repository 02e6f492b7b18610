import PyProof.Rows.All
import Wide.All
import OpenK.AllK
import Wide.FinOn
import PyProof.ReprReads
import PyProof.ReprText
import PyProof.ReprLen
import PyProof.ReprBulk
import PyProof.ReprRoads
import HandS.ForMost
import HandS.IsInst
import HandS.Wide
import HandS.StrMore
import HandS.Codes
import KE.DataMinMax
import HandS.TupAny
import HandS.TupMul
import HandS.Style
import HandS.Conv
import HandS.Walk
import HandS.Exc
import HandS.ExcOwn
import HandS.WordsExc
import HandS.TryOnly
import HandS.TryMany
import HandS.Small
import PyProof.EqAt
import PyProof.EqKinds
import PyProof.TupleCall
import KE.KExcInit
import HandS.ForExc
import HandS.ExcInit
import Open.SpecLaws
import KE.OsGo
import KE.GoesMore
import KE.KItemsList
import KE.KDictSum
import KE.KDictCopyH
import KE.KDictWalk
import KE.GoesEnum
import HandS.ListItems
import HandS.More
import HandS.Strs
import HandS.DictSubView
import HandS.SetKeys
import HandS.RevTup
import HandS.WordsDict
import PyProof.Rows.StrMeet
import HandS.Lambda
import PySem.Challenge.RW_fingerbooks_k02_whole_renamings
set_option Elab.async false
set_option linter.all false
set_option maxRecDepth 100000
set_option maxHeartbeats 2000000
namespace G
open PySem PySem.Spec PyProof.Rows L2

/-! ## Promises that hold where no text of an object is being written (guards empty) -/
structure FnG (P : Program) (w : World) (K : PySem.W.Frag) (mg : Str → Option Value) (base : Heap)
    (CX : CXT) (k : Nat) (f : Addr) (fd : FuncData) (ps : List Str) (sp : Sp) : Prop where
  len : ∀ xs H Q E, sp xs H Q E → xs.length = ps.length
  go : ∀ (A : Around) (out : List Env) (s : Shared) (H : Hp) (args : Args) (us : List Value) (xs : List V) (Q : VK) (E : XK),
    A.guards = some [] → Room k A → Env0 P w K mg base A out s H → BindsTo s fd args (ps.zip us) → Vals xs us → sp xs H Q E →
    codeAny (model P w) A (.call (.ref f) args) (CR CX out P w H s Q E) s

theorem FnG.ofOk {P w K mg base CX k f fd ps sp} (F : FnOk P w K mg base CX k f fd ps sp) : FnG P w K mg base CX k f fd ps sp :=
  ⟨F.len, fun A out s H args us xs Q E _ => F.run A out s H args us xs Q E⟩
theorem FnG.mono {P w K mg base CX j k f fd ps sp} (F : FnG P w K mg base CX j f fd ps sp) (h : j ≤ k) : FnG P w K mg base CX k f fd ps sp :=
  ⟨F.len, fun A out s H args us xs Q E hg hr => F.go A out s H args us xs Q E hg (hr.mono h)⟩

section
variable {X : Cx} {CX : CXT} {k : Nat} {f : Addr} {fd : FuncData} {ps : List Str} {sp : Sp} {dvs : List V} {ds : List Value} {E : XK}
theorem runG {pins : List (Addr × Obj)} {σ : L2.St} {H : Hp} {s : Shared} {Q : VK} {us : List Value} {xs : List V}
    (F : FnG X.prog X.w X.K X.mg X.base CX k f fd ps sp) (hgd : X.A.guards = some []) (hr : Room k X.A)
    (hb : Binds X.K fd ps ds) (hd : Vals dvs ds) (hx : Passes CX X E) (I : Inv X pins σ H s) (r : Vals xs us) (h : sp (xs ++ dvs) H Q E) :
    wpAny (model X.prog X.w) X.A (call (.ref f) us) (EP X pins σ Q) X.xe s := by
  have both : Vals (xs ++ dvs) (us ++ ds) := r.append hd
  have sz : (us ++ ds).length = ps.length := both.length.symm.trans (F.len _ _ _ _ h)
  have body := F.go X.A X.stack s H ⟨us, []⟩ (us ++ ds) (xs ++ dvs) Q E hgd hr I.env0 (hb s us I.kIn sz) both h
  refine wpAny_call (codeAny_mono body fun res t hq => ?_)
  match res, hq with
  | .error e, hq => exact hx pins σ H s e t I hq
  | .ok (.ret u), hq => exact I.after hq
  | .ok .next, hq => exact hq.elim
  | .ok .brk, hq => exact hq.elim
  | .ok .cont, hq => exact hq.elim

theorem pe_g {x : Str} {p pos : Pos} {e : Expr} {es : List Expr} {t : TA} (F : FnG X.prog X.w X.K X.mg X.base CX k f fd ps sp)
    (hgd : X.A.guards = some []) (hr : Room k X.A) (hg : Gl X x) (hm : X.mg x = some (.ref f)) (hk : PySem.W.keepIn X.K (.ref f) = true)
    (hb : Binds X.K fd ps ds) (hd : Vals dvs ds) (hx : Passes CX X E) (ha : PA X (e :: es) t)
    (hdb : (x == ("__debug__" : Str)) = false := by decide)
    (he : starEach (e :: es) X.env = (false, eval e X.env) :: starEach es X.env := by rfl)
    (hpl : (backTo pos (starEach es X.env)).any (·.1) = false := by rfl) :
    PE X (.Call (.Name x p) (e :: es) [] pos) (tCall sp dvs E t) :=
  ⟨fun pins s σ H Q I h => wpAny_Call_Name_kw (ld_glob I hg hm
    (PySem.W.callWith_K (h₀ := X.base) I.ok.mod.kin hk
      (thn (ha.run pos pins s σ H _ I h) fun us s1 ⟨xs, H1, I1, r, q⟩ => ⟨I1.kIn, runG F hgd hr hb hd hx I1 r q⟩) he hpl) hdb)⟩
theorem pe_g0 {x : Str} {p pos : Pos} (F : FnG X.prog X.w X.K X.mg X.base CX k f fd ps sp)
    (hgd : X.A.guards = some []) (hr : Room k X.A) (hg : Gl X x) (hm : X.mg x = some (.ref f)) (hk : PySem.W.keepIn X.K (.ref f) = true)
    (hb : Binds X.K fd ps ds) (hd : Vals dvs ds) (hx : Passes CX X E) (hdb : (x == ("__debug__" : Str)) = false := by decide) :
    PE X (.Call (.Name x p) [] [] pos) (tCall sp dvs E tNil) :=
  ⟨fun pins s σ H Q I h => wpAny_Call_Name_kw (ld_glob I hg hm (PySem.W.callWith_K0 I.kIn hk (runG (us := []) F hgd hr hb hd hx I .nil h)) hdb)⟩
end

/-- a def by its body, guards known -/
theorem okG {P : Program} {w : World} {K : PySem.W.Frag} {mg : Str → Option Value} {base : Heap} {x qual : Str} {st : Stmt} {f : Addr} {fd : FuncData}
    {N ps : List Str} {k : Nat} {sp : Sp} (F : Fun K x qual st f fd) (S : FnScope N ps (defScope st)) (len : ∀ xs H Q E, sp xs H Q E → xs.length = ps.length)
    (hbody : ∀ (cdv : Value) (A : Around) (out : List Env) (s : Shared) (H : Hp) (xs : List V) (Q : VK) (E : XK), A.guards = some [] →
      Room k (A.deeper (envOfC qual (defScope st) s.heap.objs.size f cdv)) → sp xs H Q E →
      ∃ t, PSs (cxOf CX0 P w K mg base N qual (defScope st) f cdv A out s H E).nox (defBody st) t ∧
        t { nx := fun _ H' => Q .non H', rt := Q } (start N xs) H) :
    FnG P w K mg base CX0 (k + 1) f fd ps sp := by
  obtain ⟨oc, od, kV, doc, pm, an, cdv, ct, osl, rfl, lk, hcd⟩ := F.ex
  constructor
  · exact len
  intro A out s H args us xs Q E gA hr e0 hb r hsp
  have old : ∀ b o, base.get? b = some o → s.heap.get? b = some o := fun b o q => (e0.bs b o q).1
  have KX : K.In s.heap := e0.mod.kin.keeps old
  have lim : s.heap.NoLimit := e0.mod.nolimit.keeps old
  refine codeAny_call_function hr.depth (KX _ _ lk) rfl S.co S.gen rfl (PySem.W.codeRec_of KX hcd) (hb _ _ _ _ ?_)
  refine wpAny_newFunctionEnv_cells S.kind (fun y hy => ?_) fun env he s1 x1 => ?_
  · have q := S.par y.1 (List.of_mem_zip (a := y.1) (b := y.2) hy).1
    exact q.elim .inl fun q => .inr ⟨q, PySem.W.cellsFrom_some _ _ _ (.inl q)⟩
  · subst he
    refine ⟨lim.keeps x1.toInCall.keep, codeAny_func ?_⟩
    obtain ⟨t, ht, hq⟩ := hbody cdv A out s H xs Q E gA (hr.deeper _) hsp
    have I := inv_start (CX := CX0) (P := P) (w := w) (K := K) (mg := mg) (base := base) (N := N) (ps := ps) (E := E) S hr.hd e0 (len _ _ _ _ hsp) r x1
    refine wpAny_mono (ht.nox.run [] s1 (start N xs) H _ I hq) (fun fl s2 hs => ?_) fun _ _ z => z
    match fl, hs with
    | .ret u, ⟨v, σ', H', J, rv, q⟩ => exact ⟨v, H', J.os, J.bare, J.base, J.hok, rv, q⟩
    | .next, ⟨σ', H', J, q⟩ => exact ⟨V.non, H', J.os, J.bare, J.base, J.hok, rfl, q⟩
    | .brk, ⟨_, _, _, q⟩ => exact q.elim
    | .cont, ⟨_, _, _, q⟩ => exact q.elim

/-! ## the end of a row -/
theorem endG {l : PySem.W.OpenLaw} {n k : Nat} {q : Program} {loose : List Str} {XP : (Str → Option Value) → Heap → Prop} {YP : World → Heap → Prop} {d : DefRec}
    {K : Params → PySem.W.Frag} {sp : PySem.W.Frag → Sp} {x : Str}
    (hn : l.most = some n) (hn2 : n ≤ sizeLine) (hdf : d.params.defaults = []) (hr : Room k callerA)
    (hY : ∀ (w : World) (h : Heap), YP w h → (K w.params).In h)
    (F : ∀ (w : World) (mg : Str → Option Value) (fa : Addr) (h : Heap), (K w.params).In h → h.Ns mainGlobals mg → mg d.name = some (.ref fa) →
      ∃ fd : FuncData, (∀ (s : Shared) (u : Value), BindsTo s fd ⟨[u], []⟩ [(x, u)]) ∧
        ∀ base : Heap, (K w.params).In base → base.Ns mainGlobals mg → FnG l.prog w (K w.params) mg base CX0 k fa fd [x] (sp (K w.params)))
    (hsp : ∀ (K : PySem.W.Frag) (H : Hp) (a : Addr) (ns : List Int), ns.length ≤ n → SqL K H a (ns.map V.int) →
      sp K [.ref a] H (fun v _ => v = .bl true) fun _ _ _ => False) :
    PySem.W.WalkO q loose XP YP l.row.toRowW d [] (fun f vs => PySem.call f vs) := by
  refine Att.attach_call hn hdf fun w s0 s1 mg mb fa o pm cd doc a vs ns gr Y ho hd hcd hmg ha hi hl hgn => ?_
  have KX := hY w _ Y
  obtain ⟨fd, hbind, F⟩ := F w mg fa _ KX gr.T.g hmg
  have rv := vals_ints hi
  have lenV := hi.length
  have nsz : ns.length ≤ sizeLine := Nat.le_trans hl hn2
  -- the tracked heap T: nothing, or the script alone
  have main : ∀ T : Hp, (∀ b, T b = none ∨ ∃ ob xs, T b = some (.frz ob (.lst xs))) → SqL (K w.params) T a (ns.map V.int) → HOk l.prog w T s1.heap →
      (∀ b, T b ≠ none → b = a) → (T a ≠ none → (K w.params).lookup a = none) →
      codeAny (model l.prog w) callerA (.call (.ref fa) ⟨[.ref a], []⟩)
        (fun r t => r = .ok (.ret (.bool true)) ∧ OldK s1.heap t.heap ∧ t.os = s1.os ∧ AllBare t.gens) s1 := by
    intro T only hS hok only_a notK
    have keepD : ∀ {b : Addr} {ob : Obj}, s1.heap.get? b = some ob → (∃ es ep, ob.data = .dict es ep) → (hidT s1.heap T).get? b = some ob := by
      intro b ob e ⟨es, ep, ed⟩
      refine hidT_get e ?_
      match q : T b with
      | none => rfl
      | some u =>
        have hb : b = a := only_a b (by rw [q]; exact Option.some_ne_none _)
        subst hb
        rw [ha] at e
        cases e
        cases (show Data.seq vs.toArray _ = Data.dict es ep from ed)
    have nsT : ∀ {b : Addr} {m : Str → Option Value}, s1.heap.Ns b m → (hidT s1.heap T).Ns b m := by
      rintro b m ⟨ob, es, ep, e, ed, r⟩
      exact ⟨ob, es, ep, keepD e ⟨es, ep, ed⟩, ed, r⟩
    have inT : (K w.params).In (hidT s1.heap T) := by
      intro b ob e
      refine hidT_get (KX b ob e) ?_
      match q : T b with
      | none => rfl
      | some u =>
        have hb : b = a := only_a b (by rw [q]; exact Option.some_ne_none _)
        subst hb
        rw [notK (by rw [q]; exact Option.some_ne_none _)] at e
        cases e
    have nolim : (hidT s1.heap T).NoLimit := by
      obtain ⟨mc, h1, h2⟩ := gr.T.nolimit
      exact ⟨mc, nsT h1, h2⟩
    have md : Mod (K w.params) mg (hidT s1.heap T) := ⟨inT, nsT gr.T.g, ⟨mb, nsT gr.T.b, gr.T.builtins⟩, nolim⟩
    have e0 : Env0 l.prog w (K w.params) mg (hidT s1.heap T) callerA [] s1 T := by
      refine ⟨rfl, md, fun b ob e => of_hidT e, Nat.le_of_eq (hidT_size _ _), trivial, fun b hb => ?_, hok, .of_eq hgn⟩
      cases (show b ∈ ([] : List Addr) from hb)
    have run := (F _ inT (nsT gr.T.g)).go callerA [] s1 T ⟨[.ref a], []⟩ [.ref a] [.ref a] _ _ rfl hr e0 (hbind s1 (.ref a)) (.cons rfl .nil) (hsp (K w.params) T a ns hl hS)
    refine codeAny_mono run fun res t hq => ?_
    match res, hq with
    | .error e, hq => exact hq.elim
    | .ok .next, hq => exact hq.elim
    | .ok .brk, hq => exact hq.elim
    | .ok .cont, hq => exact hq.elim
    | .ok (.ret u), ⟨v, T', os, bare, un, hok', rr, qq⟩ =>
      obtain rfl : v = .bl true := qq
      obtain rfl : u = Value.bool true := rr
      refine ⟨rfl, OldK.of_keep fun b ob e => ?_, os, bare⟩
      match q : T b with
      | none => exact un.keep b ob e q (fun z => nomatch (show b ∈ ([] : List Addr) from z)) (fun z => nomatch z)
      | some u =>
        rcases only b with z | ⟨fo, xs, z⟩
        · rw [q] at z
          cases z
        · obtain ⟨e1, _⟩ := hok b _ z
          obtain ⟨e2, _⟩ := hok' b _ (un.frzs b fo _ z)
          rw [e] at e1
          cases e1
          exact e2
  match hk : (K w.params).lookup a with
  | some ob =>
    have e := KX a ob hk
    rw [ha] at e
    cases e
    refine main (fun _ => none) (fun _ => .inl rfl) (.inr ⟨_, vs.toArray, _, hk, rfl, rfl, rfl, ?_, ?_⟩) (fun b u z => nomatch (show (none : Option HO) = some u from z)) (fun b z => absurd rfl z) (fun z => absurd rfl z)
    · rw [List.size_toArray, lenV]
      exact nsz
    · simpa using rv
  | none =>
    have atA : ∀ b, b = a → (if b = a then some (HO.frz { cls := .type "list", data := .seq vs.toArray } (.lst (ns.map V.int))) else none) = some (HO.frz { cls := .type "list", data := .seq vs.toArray } (.lst (ns.map V.int))) := fun b hb => if_pos hb
    have offA : ∀ b, b ≠ a → (if b = a then some (HO.frz { cls := .type "list", data := .seq vs.toArray } (.lst (ns.map V.int))) else none) = none := fun b hb => if_neg hb
    refine main (fun b => if b = a then some (.frz { cls := .type "list", data := .seq vs.toArray } (.lst (ns.map V.int))) else none) (fun b => ?_) (.inl (.inr ⟨{ cls := .type "list", data := .seq vs.toArray }, atA a rfl⟩)) (fun b u z => ?_) (fun b z => ?_) fun _ => hk
    · by_cases hb : b = a
      · exact .inr ⟨_, _, atA b hb⟩
      · exact .inl (offA b hb)
    · by_cases hb : b = a
      · have z2 := (atA b hb).symm.trans z
        cases z2
        subst hb
        exact ⟨ha, by rw [List.length_map]; exact nsz, vs, _, rv, ha⟩
      · have z2 := (offA b hb).symm.trans z
        cases z2
    · by_cases hb : b = a
      · exact hb
      · exact absurd (offA b hb) z

/-! ## repr of data -/
mutual
/-- data whose text is written: no dict, numbers and texts of bounded size -/
def nice : PyData → Bool
  | .none | .bool _ => true
  | .int i => decide (i.natAbs.log2 < 1200)
  | .str x => x.cps.toList.all fun c => decide (c < 16 ^ 8)
  | .list xs | .tuple xs => niceAll xs
  | .dict _ => false
def niceAll : List PyData → Bool
  | [] => true
  | x :: xs => nice x && niceAll xs
end
structure Shw (d : PyData) : Prop where
  noDict : d.hasDict = false
  able : d.showable = true
  deep : d.depth ≤ 60
  fits : d.shown.length ≤ sizeLine
mutual
theorem nice_facts : ∀ d : PyData, nice d = true → d.hasDict = false ∧ d.showable = true ∧ d.leavesShort 1201 = true
  | .none, _ => by simp [PyData.hasDict, PyData.showable, PyData.leavesShort]
  | .bool _, _ => by simp [PyData.hasDict, PyData.showable, PyData.leavesShort]
  | .int i, h => by
    have h2 : i.natAbs.log2 < 1200 := by simpa [nice] using h
    have h3 := int_text_length_le (a := i) (by decide) h2
    have h4 : (PyData.shown (.int i)).length ≤ 1201 := by
      rw [PyData.shown_int]
      rw [PySem.ofString_length]
      exact h3
    refine ⟨by simp [PyData.hasDict], ?_, ?_⟩
    · simp only [PyData.showable]
      exact decide_eq_true (by omega)
    · simp only [PyData.leavesShort]
      exact decide_eq_true h4
  | .str x, h => by
    refine ⟨by simp [PyData.hasDict], by simp [PyData.showable], ?_⟩
    simpa only [PyData.leavesShort, nice] using h
  | .list xs, h => by
    have q := nice_factsAll xs (by simpa only [nice] using h)
    exact ⟨by simpa only [PyData.hasDict] using q.1, by simpa only [PyData.showable] using q.2.1, by simpa only [PyData.leavesShort] using q.2.2⟩
  | .tuple xs, h => by
    have q := nice_factsAll xs (by simpa only [nice] using h)
    exact ⟨by simpa only [PyData.hasDict] using q.1, by simpa only [PyData.showable] using q.2.1, by simpa only [PyData.leavesShort] using q.2.2⟩
  | .dict _, h => by simp [nice] at h
theorem nice_factsAll : ∀ ds : List PyData, niceAll ds = true → PyData.hasDictAll ds = false ∧ PyData.showableAll ds = true ∧ PyData.leavesShortAll 1201 ds = true
  | [], _ => by simp [PyData.hasDictAll, PyData.showableAll, PyData.leavesShortAll]
  | x :: xs, h => by
    have h' : nice x = true ∧ niceAll xs = true := by simpa [niceAll] using h
    obtain ⟨a1, a2, a3⟩ := nice_facts x h'.1
    obtain ⟨b1, b2, b3⟩ := nice_factsAll xs h'.2
    simp only [PyData.hasDictAll, PyData.showableAll, PyData.leavesShortAll, a1, a2, a3, b1, b2, b3, Bool.or_self, Bool.and_self, and_self]
end
theorem shw {d : PyData} (h : nice d = true) (hd : d.depth ≤ 60) (hb : d.bulk ≤ 10000) : Shw d := by
  obtain ⟨a1, a2, a3⟩ := nice_facts d h
  refine ⟨a1, a2, hd, ?_⟩
  have q := PyData.shown_le_bulk 1201 (by decide) d a3
  have e2 : 16777216 ≤ sizeLine := by decide
  omega
section
variable {X : Cx}
def rRepr (K : PySem.W.Frag) : List V → Hp → VK → Prop := fun xs H Q => ∃ (x : V) (d : PyData), xs = [x] ∧ Dp K H x d ∧ Shw d ∧ Q (.str d.shown) H
theorem call_repr (hgd : X.A.guards = some []) (hu : X.A.units + 64 < cLine) : CallR X (.builtin "repr") (rRepr X.K) := by
  intro pins s σ H xs us Q I r h
  obtain ⟨x, d, rfl, hd, ⟨hn, hs, hp, hz⟩, q⟩ := h
  obtain ⟨u, rfl, ru⟩ := vals1 r
  obtain ⟨as, rd⟩ := Dp.reads I d x u hd ru
  have fin : ∀ h' t tk, (∀ b o, s.heap.get? b = some o → h'.get? b = some o) → EP X pins σ Q (.str d.shown t) { s with heap := h', toks := tk } :=
    fun h' t tk kp => ⟨.str d.shown, H, I.kept kp, ⟨t, rfl⟩, q⟩
  cases hd with
  | lst hl ha =>
    cases (show u = Value.ref _ from ru)
    exact repr_of_reads' rd hs (PyData.noDict_hsm hn) hgd (by omega) (fun _ _ e => e) fin hz
  | tup hl ha =>
    cases (show u = Value.ref _ from ru)
    exact repr_of_reads' rd hs (PyData.noDict_hsm hn) hgd (by omega) (fun _ _ e => e) fin hz
  | int i =>
    obtain ⟨t, rfl⟩ := (show ∃ t, u = Value.int i t from ru)
    have e : (PyData.int i).shown = ((toString i : String) : Str) := PyData.shown_int i
    rw [e] at q
    exact PySem.P.repr_of_int (by simpa [PyData.showable] using hs) ⟨.str _, H, I.tok _, ⟨_, rfl⟩, q⟩
  | non =>
    cases (show u = Value.none from ru)
    rw [PyData.shown_none] at q
    exact PySem.P.repr_of_none ⟨.str _, H, I.tok _, ⟨_, rfl⟩, q⟩
  | bl b =>
    cases (show u = Value.bool b from ru)
    rw [PyData.shown_bool] at q
    refine PySem.P.repr_of_bool ⟨.str _, H, I.tok _, ⟨_, rfl⟩, ?_⟩
    cases b <;> exact q
  | str x =>
    obtain ⟨t, rfl⟩ := (show ∃ t, u = Value.str x t from ru)
    rw [PyData.shown_str] at q hz
    exact PySem.P.repr_of_str ⟨.str _, H, I.tok _, ⟨_, rfl⟩, q⟩ hz
end
/-! ## Defs of the text as constants -/
structure DefAt (K : PySem.W.Frag) (mg : Str → Option Value) (x : Str) (st : Stmt) (ps : List Str) : Prop where
  ex : ∃ f fd, Fun K x x st f fd ∧ mg x = some (.ref f) ∧ ∀ us : List Value, us.length = ps.length → bindArgs fd ⟨us, []⟩ = pure (ps.zip us)
theorem defAt {K : PySem.W.Frag} {h : Heap} {mg : Str → Option Value} {x : Str} {st : Stmt} {ps : List Str} {f : Addr} {oc : Value} {od an : Option Addr} {osl : Array (Option Value)}
    {kV doc pm cdv ct : Value} (KX : K.In h) (gl : h.Ns mainGlobals mg)
    (hb : ∀ us : List Value, us.length = ps.length → bindArgs (PySem.W.fnOf x x (defArgs st) (defBody st) (defScope st) .none kV doc pm an cdv ct) ⟨us, []⟩ = pure (ps.zip us))
    (a : PySem.W.nsIn K mainGlobals x = some (some (.ref f)))
    (l : K.lookup f = some ⟨oc, od, .func (PySem.W.fnOf x x (defArgs st) (defBody st) (defScope st) .none kV doc pm an cdv ct), osl⟩)
    (c : PySem.W.codeIn K cdv x = true) (k : PySem.W.keepIn K (.ref f) = true) : DefAt K mg x st ps :=
  ⟨f, _, fun_mk l c k, PySem.W.mg_of KX gl a, hb⟩
structure CalG (P : Program) (w : World) (K : PySem.W.Frag) (mg : Str → Option Value) (base : Heap) (k : Nat) (x : Str) (ps : List Str) (sp : Sp) : Prop where
  ex : ∃ f fd, FnG P w K mg base CX0 k f fd ps sp ∧ mg x = some (.ref f) ∧ PySem.W.keepIn K (.ref f) = true ∧ Binds K fd ps []
theorem calOk {P : Program} {w : World} {K : PySem.W.Frag} {mg : Str → Option Value} {base : Heap} {x : Str} {st : Stmt} {N ps : List Str} {k : Nat} {sp : Sp}
    (D : DefAt K mg x st ps) (S : FnScope N ps (defScope st)) (len : ∀ xs H Q E, sp xs H Q E → xs.length = ps.length)
    (hbody : ∀ (f : Addr) (cdv : Value) (A : Around) (out : List Env) (s : Shared) (H : Hp) (xs : List V) (Q : VK) (E : XK), A.guards = some [] →
      Room k (A.deeper (envOfC x (defScope st) s.heap.objs.size f cdv)) → sp xs H Q E →
      ∃ t, PSs (cxOf CX0 P w K mg base N x (defScope st) f cdv A out s H E).nox (defBody st) t ∧
        t { nx := fun _ H' => Q .non H', rt := Q } (start N xs) H) : CalG P w K mg base (k + 1) x ps sp := by
  obtain ⟨f, fd, F, m, b⟩ := D.ex
  exact ⟨f, fd, okG F S len (hbody f), m, F.kp, Binds.all b⟩
section
variable {X : Cx} {k j : Nat} {ps : List Str} {sp : Sp} {x : Str} {p pos : Pos} {e : Expr} {es : List Expr} {t : TA}
theorem pe_k (c : CalG X.prog X.w X.K X.mg X.base k x ps sp) (hgd : X.A.guards = some []) (hr : Room j X.A) (hk : k ≤ j) (hg : Gl X x) (ha : PA X (e :: es) t)
    (hdb : (x == ("__debug__" : Str)) = false := by decide)
    (he : starEach (e :: es) X.env = (false, eval e X.env) :: starEach es X.env := by rfl)
    (hpl : (backTo pos (starEach es X.env)).any (·.1) = false := by rfl) :
    PE X (.Call (.Name x p) (e :: es) [] pos) (tCall sp [] E0 t) := by
  obtain ⟨f, fd, F, m, kp, b⟩ := c.ex
  exact pe_g F hgd (hr.mono hk) hg m kp b .nil pass0 ha hdb he hpl
theorem pe_k0 (c : CalG X.prog X.w X.K X.mg X.base k x ps sp) (hgd : X.A.guards = some []) (hr : Room j X.A) (hk : k ≤ j) (hg : Gl X x)
    (hdb : (x == ("__debug__" : Str)) = false := by decide) : PE X (.Call (.Name x p) [] [] pos) (tCall sp [] E0 tNil) := by
  obtain ⟨f, fd, F, m, kp, b⟩ := c.ex
  exact pe_g0 F hgd (hr.mono hk) hg m kp b .nil pass0 hdb
end
/-- the law's own def, at the address that the row names -/
theorem lawOk {P : Program} {w : World} {K : PySem.W.Frag} {mg : Str → Option Value} {x y : Str} {st : Stmt} {N : List Str} {k : Nat} {sp : Sp} {fa : Addr}
    (hf : mg x = some (.ref fa)) (D : DefAt K mg x st [y]) (S : FnScope N [y] (defScope st)) (len : ∀ xs H Q E, sp xs H Q E → xs.length = [y].length)
    (hbody : ∀ base : Heap, K.In base → base.Ns mainGlobals mg → ∀ (f : Addr) (cdv : Value) (A : Around) (out : List Env) (s : Shared) (H : Hp) (xs : List V) (Q : VK) (E : XK), A.guards = some [] →
      Room k (A.deeper (envOfC x (defScope st) s.heap.objs.size f cdv)) → sp xs H Q E →
      ∃ t, PSs (cxOf CX0 P w K mg base N x (defScope st) f cdv A out s H E).nox (defBody st) t ∧
        t { nx := fun _ H' => Q .non H', rt := Q } (start N xs) H) :
    ∃ fd : FuncData, (∀ (s : Shared) (u : Value), BindsTo s fd ⟨[u], []⟩ [(y, u)]) ∧
      ∀ base : Heap, K.In base → base.Ns mainGlobals mg → FnG P w K mg base CX0 (k + 1) fa fd [y] sp := by
  obtain ⟨f, fd, F, m, b⟩ := D.ex
  obtain rfl : f = fa := by
    rw [m] at hf
    cases hf
    rfl
  exact ⟨fd, fun s u => .of_eq (b [u] rfl), fun base h1 h2 => okG F S len (hbody base h1 h2 f)⟩

section
variable {X : Cx} {x : Str} {pos : Pos}
theorem pe_gv {v : V} (hg : Gl X x) (h : ∃ u, X.mg x = some u ∧ RelV v u) (hd : (x == ("__debug__" : Str)) = false := by decide) : PE X (.Name x pos) (tC v) :=
  let ⟨_, hm, r⟩ := h
  pe_glob hg hm r hd
theorem pe_ty (n : String) (hg : Gl X x) (hm : X.mg x = none) (hv : bootBuiltins x = some (.type n)) (hn : x ≠ "__name__" := by decide) (hd : (x == ("__debug__" : Str)) = false := by decide) : PE X (.Name x pos) (tC (.ty n)) :=
  pe_bltn hg hm hv rfl hn hd
end
/-! ## Heaps: what is new, what is rolled -/
theorem same_new {H : Hp} {p : Addr} {o : HO} (h : H p = none) : Same H (upd H p o) := fun b u e => by
  rw [upd_ne (ne_of_none e h)]
  exact e
mutual
theorem Dp.grow {K : PySem.W.Frag} {H H' : Hp} (s : Same H H') : ∀ {x : V} {d : PyData}, Dp K H x d → Dp K H' x d
  | _, _, .non => .non
  | _, _, .bl b => .bl b
  | _, _, .int i => .int i
  | _, _, .str x => .str x
  | _, _, .lst h a => .lst (s.seq h) (DpAll.grow s a)
  | _, _, .tup h a => .tup (by
      rcases h with (h | ⟨o, h⟩) | h
      · exact .inl (.inl (s _ _ h))
      · exact .inl (.inr ⟨o, s _ _ h⟩)
      · exact .inr h) (DpAll.grow s a)
theorem DpAll.grow {K : PySem.W.Frag} {H H' : Hp} (s : Same H H') : ∀ {xs : List V} {ds : List PyData}, DpAll K H xs ds → DpAll K H' xs ds
  | _, _, .nil => .nil
  | _, _, .cons a b => .cons (Dp.grow s a) (DpAll.grow s b)
end
/-- the heap without what stands at d -/
def hide (d : Addr) (H : Hp) : Hp := fun b => if b = d then none else H b
theorem hide_ne {d b : Addr} {H : Hp} (h : b ≠ d) : hide d H b = H b := if_neg h
theorem hide_at {d : Addr} {H : Hp} : hide d H d = none := if_pos rfl
theorem hide_le {d : Addr} {H : Hp} : Same (hide d H) H := fun b o e => by
  by_cases h : b = d
  · subst h
    rw [hide_at] at e
    cases e
  · rw [hide_ne h] at e
    exact e
/-- the dice at d: three numbers -/
def DiceAt (H : Hp) (d : Addr) : Prop := ∃ l s c : Int, H d = some (.lst [.int l, .int s, .int c])
/-- from H to H': the dice at d may have been rolled, what else stood stands -/
structure Mv (d : Addr) (H H' : Hp) : Prop where
  same : Same (hide d H) (hide d H')
  dice : DiceAt H' d
theorem Mv.refl {d : Addr} {H : Hp} (h : DiceAt H d) : Mv d H H := ⟨Same.refl _, h⟩
theorem Mv.trans {d : Addr} {H H1 H2 : Hp} (a : Mv d H H1) (b : Mv d H1 H2) : Mv d H H2 := ⟨a.same.trans b.same, b.dice⟩
theorem Mv.get {d : Addr} {H H' : Hp} (a : Mv d H H') {b : Addr} {o : HO} (n : b ≠ d) (h : H b = some o) : H' b = some o := by
  have := a.same b o (by rw [hide_ne n]; exact h)
  rw [hide_ne n] at this
  exact this
theorem Mv.free {d : Addr} {H H' : Hp} (a : Mv d H H') {p : Addr} (h : H' p = none) : H p = none := by
  by_cases e : p = d
  · subst e
    obtain ⟨l, s, c, q⟩ := a.dice
    rw [q] at h
    cases h
  · match q : H p with
    | none => rfl
    | some o =>
      rw [a.get e q] at h
      cases h
theorem DiceAt.ne {d p : Addr} {H : Hp} (h : DiceAt H d) (n : H p = none) : p ≠ d := fun e => by
  obtain ⟨l, s, c, q⟩ := h
  rw [e, q] at n
  cases n
theorem hide_new {d p : Addr} {H : Hp} {o : HO} (n : p ≠ d) : hide d (upd H p o) = upd (hide d H) p o := by
  funext b
  by_cases h1 : b = d
  · subst h1
    rw [hide_at, upd_ne n.symm, hide_at]
  · rw [hide_ne h1]
    by_cases h2 : b = p
    · subst h2
      rw [upd_same, upd_same]
    · rw [upd_ne h2, upd_ne h2, hide_ne h1]
theorem Mv.new {d p : Addr} {H H' : Hp} {o : HO} (a : Mv d H H') (n : H' p = none) : Mv d H (upd H' p o) := by
  have ne := a.dice.ne n
  refine ⟨fun b u e => ?_, ?_⟩
  · rw [hide_new ne]
    refine same_new ?_ b u (a.same b u e)
    rw [hide_ne ne]
    exact n
  · obtain ⟨l, s, c, q⟩ := a.dice
    exact ⟨l, s, c, by rw [upd_ne ne.symm]; exact q⟩
/-- an own list (new since H) changed -/
theorem Mv.set {d p : Addr} {H H' : Hp} {o : HO} (a : Mv d H H') (n : H p = none) (ne : p ≠ d) : Mv d H (upd H' p o) := by
  refine ⟨fun b u e => ?_, ?_⟩
  · rw [hide_new ne]
    have nb : b ≠ p := fun q => by
      rw [q, hide_ne ne, n] at e
      cases e
    rw [upd_ne nb]
    exact a.same b u e
  · obtain ⟨l, s, c, q⟩ := a.dice
    exact ⟨l, s, c, by rw [upd_ne ne.symm]; exact q⟩
theorem same_new2 {H : Hp} {p : Addr} {o u : HO} (h : H p = none) : Same H (upd (upd H p o) p u) := by
  rw [upd_upd]
  exact same_new h
theorem Mv.new2 {d p : Addr} {H H' : Hp} {o u : HO} (a : Mv d H H') (n : H' p = none) : Mv d H (upd (upd H' p o) p u) := by
  rw [upd_upd]
  exact a.new n
theorem Mv.rolled {d : Addr} {H H' : Hp} {l s c : Int} (a : Mv d H H') : Mv d H (upd H' d (.lst [.int l, .int s, .int c])) := by
  refine ⟨fun b u e => ?_, l, s, c, upd_same⟩
  have q := a.same b u e
  by_cases h : b = d
  · subst h
    rw [hide_at] at q
    cases q
  · rw [hide_ne h] at q ⊢
    rw [upd_ne h]
    exact q
theorem Mv.sql {K : PySem.W.Frag} {d a : Addr} {H H' : Hp} {xs : List V} (m : Mv d H H') (n : a ≠ d) (h : SqL K H a xs) : SqL K H' a xs := by
  rcases h with (h | ⟨o, h⟩) | h
  · exact .inl (.inl (m.get n h))
  · exact .inl (.inr ⟨o, m.get n h⟩)
  · exact .inr h
theorem Mv.dp {K : PySem.W.Frag} {d : Addr} {H H' : Hp} {x : V} {dat : PyData} (m : Mv d H H') (h : Dp K (hide d H) x dat) : Dp K (hide d H') x dat := Dp.grow m.same h
theorem Dp.seen {K : PySem.W.Frag} {d : Addr} {H : Hp} {x : V} {dat : PyData} (h : Dp K (hide d H) x dat) : Dp K H x dat := Dp.grow hide_le h

theorem mul60 : CMulW (10 ^ Int.toNat 60) (10 ^ Int.toNat 60) := by
  unfold CMulW
  decide +kernel
theorem pos60 : (0 : Int) < 10 ^ Int.toNat 60 * 10 ^ Int.toNat 60 := by decide +kernel
theorem mul45 : CMulW (10 ^ Int.toNat 45) (10 ^ Int.toNat 45) := by
  unfold CMulW
  decide +kernel
/-! ## the promises of the dice -/
def spDice (K : PySem.W.Frag) : Sp := fun vs H Q _ => ∃ (a : Addr) (ns : List Int) (i : Nat), vs = [.ref a, .int (i : Int)] ∧ SqL K H a (ns.map V.int) ∧ ns.length ≤ 1000 ∧
  ∀ (p : Addr) (l s c : Int), H p = none → Q (.ref p) (upd H p (.lst [.int l, .int s, .int c]))
def spRoll : Sp := fun vs H Q _ => ∃ (d : Addr) (t : Int), vs = [.ref d, .int t] ∧ DiceAt H d ∧ 0 < t ∧ t.natAbs.log2 < 9000 ∧
  ∀ (r : Int) (H' : Hp), 0 ≤ r → r < t → Mv d H H' → (∀ b, H b = none → H' b = none) → Q (.int r) H'
def spPick (K : PySem.W.Frag) : Sp := fun vs H Q _ => ∃ (d a : Addr) (xs : List V), vs = [.ref d, .ref a] ∧ DiceAt H d ∧ SqL K H a xs ∧ a ≠ d ∧ 0 < xs.length ∧ xs.length ≤ 1000 ∧
  ∀ (i : Nat) (x : V) (H' : Hp), xs[i]? = some x → Mv d H H' → (∀ b, H b = none → H' b = none) → Q x H'
theorem DpAll.map {K : PySem.W.Frag} {H : Hp} {α : Type} (f : α → V) (g : α → PyData) : ∀ (xs : List α), (∀ x ∈ xs, Dp K H (f x) (g x)) → DpAll K H (xs.map f) (xs.map g)
  | [], _ => .nil
  | x :: r, h => .cons (h x List.mem_cons_self) (DpAll.map f g r fun y hy => h y (List.mem_cons_of_mem _ hy))
theorem canAll {α : Type} (g : α → PyData) : ∀ (xs : List α), (∀ x ∈ xs, (g x).canLay0 = true) → PyData.canLayAll0 (xs.map g) = true
  | [], _ => by simp [PyData.canLayAll0]
  | x :: r, h => by
    simp only [List.map_cons, PyData.canLayAll0, h x List.mem_cons_self, canAll g r fun y hy => h y (List.mem_cons_of_mem _ hy), Bool.and_self]
theorem depthAll0 {α : Type} (n : Nat) (g : α → PyData) : ∀ (xs : List α), (∀ x ∈ xs, (g x).depth ≤ n) → PyData.depthAll (xs.map g) ≤ n
  | [], _ => by simp [PyData.depthAll]
  | x :: r, h => by
    have h1 := h x List.mem_cons_self
    have h2 := depthAll0 n g r fun y hy => h y (List.mem_cons_of_mem _ hy)
    simp only [List.map_cons, PyData.depthAll]
    omega

/-! ## readings by statements: what an expression's reading hands on is said in one place -/
section
variable {te : TE} {tt : TT} {i : Nat} {t1 t2 rest : TS} {D : Ends} {σ : L2.St} {H : Hp}
theorem go_nx {t : TS} {r : VK} {b c : L2.St → Hp → Prop} (h : t D σ H) : Ends.nx ⟨t D, r, b, c⟩ σ H := h
theorem a_set (R : V → Hp → Prop) (h : ∀ Q' : VK, (∀ v H', R v H' → Q' v H') → te σ H Q') (k : ∀ v H', R v H' → rest D (σ.set i (some v)) H') :
    tSeq (tAsg te (gName i)) rest D σ H := h _ k
theorem a_set1 (R : V → Hp → Prop) (h : ∀ Q' : VK, (∀ v H', R v H' → Q' v H') → te σ H Q') (k : ∀ v H', R v H' → D.nx (σ.set i (some v)) H') :
    tAsg te (gName i) D σ H := h _ k
theorem a_ret (R : V → Hp → Prop) (h : ∀ Q' : VK, (∀ v H', R v H' → Q' v H') → te σ H Q') (k : ∀ v H', R v H' → D.rt v H') : tRet te D σ H := h _ k
theorem a_if (R : Bool → Hp → Prop) (h : ∀ Q' : Bool → Hp → Prop, (∀ b H', R b H' → Q' b H') → tt σ H Q') (k1 : ∀ H', R true H' → t1 { D with nx := rest D } σ H') (k2 : ∀ H', R false H' → t2 { D with nx := rest D } σ H') :
    tSeq (tIfS tt t1 t2) rest D σ H := h _ fun b H' r => by
  cases b with
  | true => exact iteT (k1 H' r)
  | false => exact iteF (k2 H' r)
theorem a_if1 (R : Bool → Hp → Prop) (h : ∀ Q' : Bool → Hp → Prop, (∀ b H', R b H' → Q' b H') → tt σ H Q') (k1 : ∀ H', R true H' → t1 D σ H') (k2 : ∀ H', R false H' → t2 D σ H') :
    tIfS tt t1 t2 D σ H := h _ fun b H' r => by
  cases b with
  | true => exact iteT (k1 H' r)
  | false => exact iteF (k2 H' r)
end
end G

set_option Elab.async false
set_option linter.all false
set_option maxRecDepth 100000
set_option maxHeartbeats 2000000
namespace G
open PySem PySem.Spec PyProof.Rows L2
/-! ## values as data, dicts among them -/
def keyD : Key → PyData
  | .inl i => .int i
  | .inr z => .str z
mutual
inductive Dx (H : Hp) : V → PyData → Prop
  | non : Dx H .non .none
  | bl (b : Bool) : Dx H (.bl b) (.bool b)
  | int (i : Int) : Dx H (.int i) (.int i)
  | str (x : Str) : Dx H (.str x) (.str x)
  | lst {a : Addr} {xs : List V} {ds : List PyData} : H a = some (.lst xs) → DxAll H xs ds → Dx H (.ref a) (.list ds)
  | tup {a : Addr} {xs : List V} {ds : List PyData} : H a = some (.tup xs) → DxAll H xs ds → Dx H (.ref a) (.tuple ds)
  | dct {a : Addr} {kvs : List (Key × V)} {ps : List (PyData × PyData)} : H a = some (.dK kvs) → DxKv H kvs ps → Dx H (.ref a) (.dict ps)
inductive DxAll (H : Hp) : List V → List PyData → Prop
  | nil : DxAll H [] []
  | cons {v : V} {vs : List V} {d : PyData} {ds : List PyData} : Dx H v d → DxAll H vs ds → DxAll H (v :: vs) (d :: ds)
inductive DxKv (H : Hp) : List (Key × V) → List (PyData × PyData) → Prop
  | nil : DxKv H [] []
  | cons {k : Key} {v : V} {r : List (Key × V)} {d : PyData} {ps : List (PyData × PyData)} : Dx H v d → DxKv H r ps → DxKv H ((k, v) :: r) ((keyD k, d) :: ps)
end
mutual
theorem Dx.grow {H H' : Hp} (s : Same H H') : ∀ {x : V} {d : PyData}, Dx H x d → Dx H' x d
  | _, _, .non => .non
  | _, _, .bl b => .bl b
  | _, _, .int i => .int i
  | _, _, .str x => .str x
  | _, _, .lst h a => .lst (s _ _ h) (DxAll.grow s a)
  | _, _, .tup h a => .tup (s _ _ h) (DxAll.grow s a)
  | _, _, .dct h a => .dct (s _ _ h) (DxKv.grow s a)
theorem DxAll.grow {H H' : Hp} (s : Same H H') : ∀ {xs : List V} {ds : List PyData}, DxAll H xs ds → DxAll H' xs ds
  | _, _, .nil => .nil
  | _, _, .cons a b => .cons (Dx.grow s a) (DxAll.grow s b)
theorem DxKv.grow {H H' : Hp} (s : Same H H') : ∀ {xs : List (Key × V)} {ds : List (PyData × PyData)}, DxKv H xs ds → DxKv H' xs ds
  | _, _, .nil => .nil
  | _, _, .cons a b => .cons (Dx.grow s a) (DxKv.grow s b)
end
mutual
theorem Dx.dp {K : PySem.W.Frag} {H : Hp} : ∀ {x : V} {d : PyData}, Dx H x d → d.hasDict = false → Dp K H x d
  | _, _, .non, _ => .non
  | _, _, .bl b, _ => .bl b
  | _, _, .int i, _ => .int i
  | _, _, .str x, _ => .str x
  | _, _, .lst h a, n => .lst (SqL.of h) (DxAll.dp a (by simpa [PyData.hasDict] using n))
  | _, _, .tup h a, n => .tup (SqT.of h) (DxAll.dp a (by simpa [PyData.hasDict] using n))
  | _, _, .dct h a, n => by simp [PyData.hasDict] at n
theorem DxAll.dp {K : PySem.W.Frag} {H : Hp} : ∀ {xs : List V} {ds : List PyData}, DxAll H xs ds → PyData.hasDictAll ds = false → DpAll K H xs ds
  | _, _, .nil, _ => .nil
  | _, _, .cons a b, n => by
    rw [PyData.hasDictAll, Bool.or_eq_false_iff] at n
    exact .cons (Dx.dp a n.1) (DxAll.dp b n.2)
end
theorem DxAll.len {H : Hp} : ∀ {xs : List V} {ds : List PyData}, DxAll H xs ds → xs.length = ds.length
  | _, _, .nil => rfl
  | _, _, .cons _ b => by rw [List.length_cons, List.length_cons, DxAll.len b]
theorem DxAll.at {H : Hp} : ∀ {xs : List V} {ds : List PyData}, DxAll H xs ds → ∀ (i : Nat) (d : PyData), ds[i]? = some d → ∃ x, xs[i]? = some x ∧ Dx H x d
  | _, _, .nil, _, _, e => by cases e
  | _, _, .cons a b, 0, d, e => by
    cases e
    exact ⟨_, rfl, a⟩
  | _, _, .cons a b, i + 1, d, e => DxAll.at b i d e
theorem DxAll.get {H : Hp} : ∀ {xs : List V} {ds : List PyData}, DxAll H xs ds → ∀ (i : Nat) (x : V), xs[i]? = some x → ∃ d, ds[i]? = some d ∧ Dx H x d
  | _, _, .nil, _, _, e => by cases e
  | _, _, .cons a b, 0, d, e => by
    cases e
    exact ⟨_, rfl, a⟩
  | _, _, .cons a b, i + 1, d, e => DxAll.get b i d e
theorem DxAll.append {H : Hp} : ∀ {xs ys : List V} {ds es : List PyData}, DxAll H xs ds → DxAll H ys es → DxAll H (xs ++ ys) (ds ++ es)
  | _, _, _, _, .nil, h => h
  | _, _, _, _, .cons a b, h => .cons a (DxAll.append b h)
theorem DxAll.take {H : Hp} : ∀ {xs : List V} {ds : List PyData} (n : Nat), DxAll H xs ds → DxAll H (xs.take n) (ds.take n)
  | _, _, 0, _ => .nil
  | _, _, _ + 1, .nil => .nil
  | _, _, n + 1, .cons a b => .cons a (DxAll.take n b)
theorem DxAll.drop {H : Hp} : ∀ {xs : List V} {ds : List PyData} (n : Nat), DxAll H xs ds → DxAll H (xs.drop n) (ds.drop n)
  | _, _, 0, h => h
  | _, _, _ + 1, .nil => .nil
  | _, _, n + 1, .cons a b => DxAll.drop n b
theorem DxAll.rep {H : Hp} {x : V} {d : PyData} (h : Dx H x d) : ∀ n, DxAll H (List.replicate n x) (List.replicate n d)
  | 0 => .nil
  | n + 1 => .cons h (DxAll.rep h n)
def tyName : PyData → String
  | .none => "NoneType" | .bool _ => "bool" | .int _ => "int" | .str _ => "str" | .list _ => "list" | .tuple _ => "tuple" | .dict _ => "dict"
theorem Dx.ty {K : PySem.W.Frag} {H : Hp} {x : V} {d : PyData} (h : Dx H x d) : TyX K H x (.type (tyName d)) := by
  cases h with
  | non => exact .base .non
  | bl b => exact .base (.bl b)
  | int i => exact .base (.int i)
  | str x => exact .base (.str x)
  | lst h _ => exact .base (.lst h)
  | tup h _ => exact .base (.tup h)
  | dct h _ => exact .base (.dK h)
theorem Same.put {H H' : Hp} {p : Addr} {o : HO} (s : Same H H') (n : H p = none) : Same H (upd H' p o) := fun b u e => by
  rw [upd_ne (ne_of_none e n)]
  exact s b u e
/-- a judge: what it says hangs on the value's data alone -/
def spJ (f : PyData → Bool) : Sp := fun vs H Q _ => ∃ (x : V) (d : PyData), vs = [x] ∧ Dx H x d ∧ ∀ H', Same H H' → Q (.bl (f d)) H'
theorem Mv.ofSame {d : Addr} {H H1 H2 : Hp} (a : Mv d H H1) (s : Same H1 H2) : Mv d H H2 := by
  refine ⟨fun b u e => ?_, ?_⟩
  · have q := a.same b u e
    by_cases h : b = d
    · subst h
      rw [hide_at] at q
      cases q
    · rw [hide_ne h] at q ⊢
      exact s _ _ q
  · obtain ⟨l, t, c, q⟩ := a.dice
    exact ⟨l, t, c, s _ _ q⟩
theorem Mv.dx {d : Addr} {H H' : Hp} {x : V} {dat : PyData} (m : Mv d H H') (h : Dx (hide d H) x dat) : Dx (hide d H') x dat := Dx.grow m.same h
theorem Dx.seen {d : Addr} {H : Hp} {x : V} {dat : PyData} (h : Dx (hide d H) x dat) : Dx H x dat := Dx.grow hide_le h

/-! ## the program's judges of forms and rows, as functions of data -/
abbrev BIG : Int := 1000000000000000000000000000000000000000000000000000000000000
def smallB (i : Int) : Bool := decide (-BIG < i) && decide (i < BIG)
def intB : PyData → Bool
  | .int i => smallB i
  | _ => false
def pairB : PyData → Bool
  | .tuple [a, b] => intB a && intB b
  | _ => false
def sideB : PyData → Bool
  | .int i => decide (0 ≤ i) && decide (i ≤ 7)
  | _ => false
def formB : PyData → Bool
  | .tuple [a, b] => sideB a && sideB b
  | _ => false
def formsB : PyData → Bool
  | .tuple ds => decide (ds.length ≤ 200) && ds.all formB
  | _ => false
def zeroD : PyData := .tuple [.int 0, .int 0]
def rowB : PyData → Bool
  | .tuple ds => formsB (.tuple ds) && (ds.isEmpty || !PyData.eqv (ds.getLastD .none) zeroD)
  | _ => false

section
variable {X : Cx}
/-- min and max of a tuple of two numbers -/
def rBest (f : Int → Int → Int) : List V → Hp → VK → Prop := fun vs H Q => ∃ (a : Addr) (i j : Int), vs = [.ref a] ∧ H a = some (.tup [.int i, .int j]) ∧ Q (.int (f i j)) H
open PySem.W in
theorem cr_max2T (hc : X.calm = true) (hu : X.A.units + 64 < cLine) : CallR X (.builtin "max") (rBest max) := by
  intro pins s σ H vs us Q I r h
  obtain ⟨a, i, j, rfl, ha, q⟩ := h
  rw [Vals.ref1 r]
  obtain ⟨its, rv, hl, _⟩ := I.tuple (SqT.of (K := X.K) ha)
  obtain ⟨u1, u2, rfl, r1, r2⟩ := vals2 rv
  obtain ⟨t1, rfl⟩ := (show ∃ t, u1 = Value.int i t from r1)
  obtain ⟨t2, rfl⟩ := (show ∃ t, u2 = Value.int j t from r2)
  refine max_tuple_data (x := .int i) (xs := [.int j]) (I.ok.hd hc) hl (.cons (.int i t1) (.cons (.int j t2) .nil)) ?_ ?_ fun k v h' tk bs hv rd kp => ?_
  · exact ⟨fun x hx y hy => by
      rcases List.mem_cons.mp hx with rfl | hx <;> rcases List.mem_cons.mp hy with rfl | hy
      · rfl
      · rw [List.mem_singleton.mp hy]; rfl
      · rw [List.mem_singleton.mp hx]; rfl
      · rw [List.mem_singleton.mp hy, List.mem_singleton.mp hx]; rfl, fun x hx z => by
      rcases List.mem_cons.mp hx with rfl | hx
      · cases z
      · rw [List.mem_singleton.mp hx] at z
        cases z⟩
  · have e : PyData.depthAll [.int i, .int j] = 0 := by simp [PyData.depthAll, PyData.depth]
    rw [e]
    omega
  · have e : maxD (.int i) [.int j] = .int (max i j) := maxD_ints i [j]
    rw [e] at rd
    cases rd with
    | int _ t => exact ⟨.int _, H, I.kept kp, ⟨t, rfl⟩, q⟩
open PySem.W in
theorem cr_min2T (hc : X.calm = true) (hu : X.A.units + 64 < cLine) : CallR X (.builtin "min") (rBest min) := by
  intro pins s σ H vs us Q I r h
  obtain ⟨a, i, j, rfl, ha, q⟩ := h
  rw [Vals.ref1 r]
  obtain ⟨its, rv, hl, _⟩ := I.tuple (SqT.of (K := X.K) ha)
  obtain ⟨u1, u2, rfl, r1, r2⟩ := vals2 rv
  obtain ⟨t1, rfl⟩ := (show ∃ t, u1 = Value.int i t from r1)
  obtain ⟨t2, rfl⟩ := (show ∃ t, u2 = Value.int j t from r2)
  refine min_tuple_data (x := .int i) (xs := [.int j]) (I.ok.hd hc) hl (.cons (.int i t1) (.cons (.int j t2) .nil)) ?_ ?_ fun k v h' tk bs hv rd kp => ?_
  · exact ⟨fun x hx y hy => by
      rcases List.mem_cons.mp hx with rfl | hx <;> rcases List.mem_cons.mp hy with rfl | hy
      · rfl
      · rw [List.mem_singleton.mp hy]; rfl
      · rw [List.mem_singleton.mp hx]; rfl
      · rw [List.mem_singleton.mp hy, List.mem_singleton.mp hx]; rfl, fun x hx z => by
      rcases List.mem_cons.mp hx with rfl | hx
      · cases z
      · rw [List.mem_singleton.mp hx] at z
        cases z⟩
  · have e : PyData.depthAll [.int i, .int j] = 0 := by simp [PyData.depthAll, PyData.depth]
    rw [e]
    omega
  · have e : minD (.int i) [.int j] = .int (min i j) := minD_ints i [j]
    rw [e] at rd
    cases rd with
    | int _ t => exact ⟨.int _, H, I.kept kp, ⟨t, rfl⟩, q⟩
end
/-! ## tuples put together, cut and repeated, over data -/
theorem fresh_same {d p : Addr} {H : Hp} {o : HO} (hd : DiceAt H d) (n : H p = none) : Same (hide d H) (hide d (upd H p o)) := ((Mv.refl hd).new n).same
theorem OpR.to {X : Cx} {f : Value → Value → Sem Value} {r r' : R2} (h : OpR X f r) (i : ∀ x y H Q, r' x y H Q → r x y H Q) : OpR X f r' :=
  fun pins s σ H x y v u Q I rx ry q => h pins s σ H x y v u Q I rx ry (i _ _ _ _ q)
theorem Dx.tupOf {H : Hp} {x : V} {ds : List PyData} (h : Dx H x (.tuple ds)) : ∃ a xs, x = .ref a ∧ H a = some (.tup xs) ∧ DxAll H xs ds := by
  cases h with
  | tup h1 h2 => exact ⟨_, _, rfl, h1, h2⟩
def rCatD : R2 := fun x y H Q => ∃ (d : Addr) (ds es : List PyData), DiceAt H d ∧ Dx (hide d H) x (.tuple ds) ∧ Dx (hide d H) y (.tuple es) ∧ ds.length + es.length ≤ 100000 ∧
  ∀ v H', Mv d H H' → Dx (hide d H') v (.tuple (ds ++ es)) → Q v H'
theorem op_catD {X : Cx} : OpR X (binaryOp .Add) rCatD := by
  refine OpR.to op_catA fun x y H Q h => ?_
  obtain ⟨d, ds, es, hd, hx, hy, hl, k⟩ := h
  obtain ⟨a, xs, rfl, ha, hxs⟩ := hx.tupOf
  obtain ⟨b, ys, rfl, hb, hys⟩ := hy.tupOf
  have l1 := hxs.len
  have l2 := hys.len
  refine ⟨a, b, xs, ys, rfl, rfl, SqT.of (hide_le _ _ ha), SqT.of (hide_le _ _ hb), Nat.le_trans (show xs.length + ys.length ≤ 100000 by omega) (by decide), fun e => ?_, fun _ e => ?_, fun _ _ p np => ?_⟩
  · subst e
    cases hxs
    exact k _ _ (Mv.refl hd) hy
  · subst e
    cases hys
    refine k _ _ (Mv.refl hd) ?_
    rw [List.append_nil]
    exact hx
  · refine k _ _ ((Mv.refl hd).new np) (.tup (by rw [hide_ne (hd.ne np)]; exact upd_same) (DxAll.grow (fresh_same hd np) (hxs.append hys)))
/-- the part of a tuple that a slice takes -/
def cutD (ds : List PyData) (lo hi : Option Int) : List PyData := (ds.drop (HT.sIx ds.length 0 lo)).take (HT.sIx ds.length ds.length hi - HT.sIx ds.length 0 lo)
def rSlD : V → Option Int → Option Int → Hp → VK → Prop := fun x lo hi H Q => ∃ (d : Addr) (ds : List PyData), DiceAt H d ∧ Dx (hide d H) x (.tuple ds) ∧
  ∀ v H', Mv d H H' → Dx (hide d H') v (.tuple (cutD ds lo hi)) → Q v H'
theorem sl_tupD {X : Cx} : SlR X rSlD := by
  intro pins s σ H x v vl vu lo hi sl Q I rx hs pl pu h
  obtain ⟨d, ds, hd, hx, k⟩ := h
  obtain ⟨a, xs, rfl, ha, hxs⟩ := hx.tupOf
  have l1 := hxs.len
  refine sl_tupA pins s σ H (.ref a) v vl vu lo hi sl Q I rx hs pl pu ⟨a, xs, rfl, SqT.of (hide_le _ _ ha), fun e => ?_, fun _ p np => ?_⟩
  · refine k _ _ (Mv.refl hd) ?_
    have e2 : cutD ds lo hi = ds := by
      unfold cutD
      rw [← l1, e.1, e.2]
      simp [l1]
    rw [e2]
    exact hx
  · refine k _ _ ((Mv.refl hd).new np) (.tup (by rw [hide_ne (hd.ne np)]; exact upd_same) (DxAll.grow (fresh_same hd np) ?_))
    have e2 : cutV xs lo hi = (xs.drop (HT.sIx ds.length 0 lo)).take (HT.sIx ds.length ds.length hi - HT.sIx ds.length 0 lo) := by
      unfold cutV
      rw [l1]
    rw [e2]
    exact (hxs.drop _).take _
def rRepD : R2 := fun x y H Q => ∃ (d : Addr) (k : Int) (ds : List PyData), y = .int k ∧ DiceAt H d ∧ Dx (hide d H) x (.tuple ds) ∧ ds ≠ [] ∧ 2 ≤ k ∧ k ≤ 1000 ∧ ds.length ≤ 1000 ∧
  ∀ v H', Mv d H H' → Dx (hide d H') v (.tuple (List.replicate k.toNat ds).flatten) → Q v H'
theorem DxAll.flat {H : Hp} {xs : List V} {ds : List PyData} (h : DxAll H xs ds) : ∀ n, DxAll H (List.replicate n xs).flatten (List.replicate n ds).flatten
  | 0 => .nil
  | n + 1 => by
    rw [List.replicate_succ, List.replicate_succ, List.flatten_cons, List.flatten_cons]
    exact h.append (DxAll.flat h n)
theorem op_repD {X : Cx} : OpR X (binaryOp .Mult) rRepD := by
  refine OpR.to op_repT fun x y H Q h => ?_
  obtain ⟨d, n, ds, rfl, hd, hx, h0, h2, h3, h4, k⟩ := h
  obtain ⟨a, xs, rfl, ha, hxs⟩ := hx.tupOf
  have l1 := hxs.len
  refine ⟨a, n, xs, rfl, rfl, SqT.of (hide_le _ _ ha), fun e => ?_, h2, h3, by omega, fun p np => ?_⟩
  · subst e
    cases hxs
    exact h0 rfl
  · exact k _ _ ((Mv.refl hd).new np) (.tup (by rw [hide_ne (hd.ne np)]; exact upd_same) (DxAll.grow (fresh_same hd np) (hxs.flat n.toNat)))
/-- a value picked out of a list of known data -/
theorem picked {d : Addr} {H H' : Hp} {xs : List V} {ds : List PyData} {i : Nat} {x : V} (h : DxAll (hide d H) xs ds) (m : Mv d H H') (e : xs[i]? = some x) : ∃ dat, dat ∈ ds ∧ Dx (hide d H') x dat := by
  obtain ⟨dat, h1, h2⟩ := h.get i x e
  exact ⟨dat, List.mem_of_getElem? h1, h2.grow m.same⟩
end G

set_option Elab.async false
set_option linter.all false
set_option maxRecDepth 100000
set_option maxHeartbeats 4000000
namespace G
open PySem PySem.Spec PyProof.Rows L2 HT
/-! ## a tuple read backwards: t[::-1] -/
theorem all_places {α : Type} : ∀ l : List α, (List.range l.length).filterMap (fun k => l[k]?) = l
  | [] => rfl
  | x :: r => by
    have ih := all_places r
    rw [List.length_cons, List.range_succ_eq_map, List.filterMap_cons]
    show x :: List.filterMap (fun k => (x :: r)[k]?) (List.map Nat.succ (List.range r.length)) = x :: r
    rw [List.filterMap_map]
    exact congrArg (x :: ·) ih
theorem fm_congr {α β : Type} {f g : α → Option β} : ∀ l : List α, (∀ x ∈ l, f x = g x) → l.filterMap f = l.filterMap g
  | [], _ => rfl
  | x :: r, h => by
    rw [List.filterMap_cons, List.filterMap_cons, h x List.mem_cons_self, fm_congr r fun y hy => h y (List.mem_cons_of_mem _ hy)]
theorem back_items (xs : Array Value) : ((List.range xs.size).filterMap fun (k : Nat) => xs[(((xs.size : Int) - 1) + (k : Int) * (-1)).toNat]?).toArray = xs.toList.reverse.toArray := by
  congr 1
  have e := all_places xs.toList.reverse
  rw [List.length_reverse, Array.length_toList] at e
  rw [← e]
  refine fm_congr _ fun k hk => ?_
  have hk' : k < xs.size := List.mem_range.mp hk
  rw [show (((xs.size : Int) - 1) + (k : Int) * (-1)).toNat = xs.size - 1 - k by omega]
  rw [← Array.getElem?_toList, List.getElem?_reverse (by rw [Array.length_toList]; exact hk'), Array.length_toList]
section
variable {prog : Program} {w : World} {A : Around} {E : Value → Shared → Prop} {s : Shared}
theorem applied_back {sl : Addr} {vl vu vs : Value} {n : Nat} {Q : Int × Int × Nat → Shared → Prop} (hs : s.heap.IsSliceOf sl vl vu vs) (pl : IsPart vl none) (pu : IsPart vu none) (ps : IsPart vs (some (-1)))
    (h : Q ((n : Int) - 1, -1, n) s) : wpAny (model prog w) A (Builtin.Slice.sliceApplied (.ref sl) (pure (n : Int))) Q E s := by
  obtain ⟨so, so1, so2, so3⟩ := id hs
  unfold Builtin.Slice.sliceApplied Builtin.Slice.sliceFields
  refine wpAny_bind (wpAny_bind (wpAny_field so1 so3 (x := vl) rfl (wpAny_bind (wpAny_field so1 so3 (x := vu) rfl (wpAny_bind (wpAny_field so1 so3 (x := vs) rfl (wpAny_pure ?_)))))))
  refine wpAny_bind (slicePart_ ps ?_)
  show wpAny _ _ (if ((-1 : Int) == 0) = true then _ else _) _ _ s
  rw [if_neg (by decide)]
  refine wpAny_bind (slicePart_ pl (wpAny_bind (slicePart_ pu (wpAny_bind (wpAny_pure ?_)))))
  have e1 : Builtin.Slice.sliceAdjust none none (-1) (n : Int) = ((n : Int) - 1, -1) := rfl
  have e2 : Builtin.Slice.slicePlaces ((n : Int) - 1) (-1) (-1) = n := by
    unfold Builtin.Slice.slicePlaces
    rw [if_neg (by decide)]
    by_cases q : (n : Int) - 1 > -1
    · rw [if_pos q]
      have : ((n : Int) - 1 - -1 - 1) / - -1 = (n : Int) - 1 - -1 - 1 := by
        rw [Int.neg_neg, Int.ediv_one]
      rw [this]
      omega
    · rw [if_neg q]
      omega
  show wpAny _ _ (match Builtin.Slice.sliceAdjust none none (-1) (n : Int) with | (lo, hi) => pure (lo, (-1 : Int), Builtin.Slice.slicePlaces lo hi (-1))) _ _ s
  rw [e1]
  show wpAny _ _ (pure ((n : Int) - 1, (-1 : Int), Builtin.Slice.slicePlaces ((n : Int) - 1) (-1) (-1))) _ _ s
  rw [e2]
  exact wpAny_pure h
theorem item_back {t sl : Addr} {items : Array Value} {vl vu vs : Value} {Q : Value → Shared → Prop} (ht : IsTup s.heap t items) (hs : s.heap.IsSliceOf sl vl vu vs) (pl : IsPart vl none) (pu : IsPart vu none) (ps : IsPart vs (some (-1)))
    (h : Q (.ref s.heap.objs.size) { s with heap := s.heap.push { cls := .type "tuple", data := .seq items.toList.reverse.toArray } }) (hsz : items.size ≤ sizeLine) : wpAny (model prog w) A (getItem (.ref t) (.ref sl)) Q E s := by
  have fits : sizeOk (.seq items.toList.reverse.toArray) := by
    show items.toList.reverse.toArray.size ≤ sizeLine
    rw [List.size_toArray, List.length_reverse, Array.length_toList]
    exact hsz
  obtain ⟨so, so1, so2, so3⟩ := id hs
  have kind : s.TypeIs (.ref sl) "slice" := ⟨so, so1, so2⟩
  unfold getItem
  try with_reducible refine wpAny_holding ?_
  first | refine wpAny_bind (wpAny_pure ?_) | skip
  refine wpAny_bind (wpAny_sequenceKey ht.typeIs (by decide) ?_)
  refine wpAny_bind (wpAny_callSpecial?_slot (name := Str.ofString "__getitem__") ht.typeIs PyProof.Rows.slot_tuple_getitem (wpAny_call_entry PyProof.Rows.slot_tuple_getitem ht.typeIs entry_tuple_getitem ?_ (args_tuple_getitem _ _)))
  show wpAny _ _ (Builtin.Tuple.tupleItemsOf (.ref t) >>= _) _ _ s
  refine wpAny_bind (tupleItemsOf_ ht (wpAny_bind (wpAny_typeOf kind ?_)))
  rw [if_pos (by decide)]
  refine wpAny_bind (applied_back hs pl pu ps ?_)
  have part : ¬ ((((items.size : Int) - 1) == 0 && (-1 : Int) == 1 && items.size == items.size) = true) := by
    intro q
    rw [Bool.and_eq_true, Bool.and_eq_true] at q
    exact absurd q.1.2 (by decide)
  show wpAny _ _ (if (((items.size : Int) - 1) == 0 && (-1 : Int) == 1 && items.size == items.size) = true then _ else _) _ _ s
  rw [if_neg part, back_items]
  first
    | exact wpAny_bind (m := Builtin.Tuple.tupleExact _) (wpAny_newObj_type (wpAny_pure ⟨_, rfl, wpAny_pure h⟩) fits)
    | exact wpAny_bind (m := Builtin.Tuple.tupleExact _) (wpAny_newObj_type (wpAny_bind (wpAny_pure (wpAny_pure ⟨_, rfl, wpAny_pure h⟩))) fits)
    | exact wpAny_bind (wpAny_bind (m := Builtin.Tuple.tupleExact _) (wpAny_newObj_type (wpAny_pure (wpAny_pure ⟨_, rfl, wpAny_pure h⟩)) fits))
    | exact wpAny_bind (wpAny_bind (m := Builtin.Tuple.tupleExact _) (wpAny_newObj_type (wpAny_pure ⟨_, rfl, wpAny_pure h⟩) fits))
end
def tRevT (K : PySem.W.Frag) (te : TE) : TE := fun σ H Q => te σ H fun x H1 => ∃ a xs, x = .ref a ∧ SqT K H1 a xs ∧ ∀ p, H1 p = none → Q (.ref p) (upd H1 p (.tup xs.reverse))
theorem pe_revT {X : Cx} {e : Expr} {te : TE} {k : Nat} {p1 p2 p3 pos : Pos} (he : PE X e te) : PE X (.Subscript e (.Slice none none (some (.UnaryOp .USub (.Constant (.int 1) k p1) p2)) p3) pos) (tRevT X.K te) := by
  constructor
  intro pins s σ H Q I h
  refine Subscript_ (thn (he.run pins s σ H _ I h) fun v s1 hv => ?_)
  obtain ⟨x, H1, I1, r1, a, xs, rfl, hx, q⟩ := hv
  cases r1
  have stp : PO X (some (.UnaryOp .USub (.Constant (.int 1) k p1) p2)) (tPart (tUn (rU fun i => .int (-i)) (tC (.int 1)))) := po_some (pe_un un_neg pe_int)
  refine wpAny_Slice (thn (po_none.run pins s1 σ H1 (fun o G => o = none ∧ G = H1) I1 ⟨rfl, rfl⟩) fun vl s2 hl => ?_)
  obtain ⟨l, H2, I2, pl, rfl, rfl⟩ := hl
  refine thn (po_none.run pins s2 σ H2 (fun o G => o = none ∧ G = H2) I2 ⟨rfl, rfl⟩) fun vu s3 hu => ?_
  obtain ⟨u, H3, I3, pu, rfl, rfl⟩ := hu
  refine thn (stp.run pins s3 σ H3 (fun o G => o = some (-1) ∧ G = H3) I3 ⟨1, rfl, -1, rfl, rfl, rfl⟩) fun vs s4 ho => ?_
  obtain ⟨o, H4, I4, ps, rfl, rfl⟩ := ho
  have I5 : Inv X pins σ H4 { s4 with heap := s4.heap.push { cls := .type "slice", data := .fields #[vl, vu, vs] } } := I4.kept (t' := s4.toks) fun b ob z => Heap.get?_push_of_some _ z
  obtain ⟨its, r, ht, hz⟩ := I5.tuple hx
  have hlen := r.length
  show wpAny (model X.prog X.w) X.A (subscriptTail e (.Slice none none (some (.UnaryOp .USub (.Constant (.int 1) k p1) p2)) p3) (.ref a) (.ref s4.heap.objs.size)) (EP X pins σ Q) X.xe { s4 with heap := s4.heap.push { cls := .type "slice", data := .fields #[vl, vu, vs] } }
  refine tail_any (ops := [.ref a, .ref s4.heap.objs.size]) ht.typeIs (PyProof.Rows.slot_tuple_getitem.lookup) ?_ (by with_unfolding_all rfl)
  refine item_back ht (Heap.IsSliceOf.new _ vl vu vs) pl pu ps ?_ (by rw [List.size_toArray]; omega)
  refine ⟨.ref _, _, I5.laid (t' := s4.toks) (o := .tup xs.reverse) (fun b ob z => Heap.get?_push_of_some _ z) (Nat.le_refl _) ?_, rfl, q _ (I5.hok.fresh (Nat.le_refl _))⟩
  refine ⟨by rw [List.length_reverse]; exact hz, its.reverse, r.reverse, _, Heap.get?_push_size _ rfl, rfl, 0, ?_⟩
  simp
end G

set_option Elab.async false
set_option linter.all false
set_option maxRecDepth 100000
set_option maxHeartbeats 4000000
namespace G
open PySem PySem.Spec PyProof.Rows L2
/-! ## Promises of defs that may raise (guards empty) -/
theorem okGX {P : Program} {w : World} {K : PySem.W.Frag} {mg : Str → Option Value} {base : Heap} {x qual : Str} {st : Stmt} {f : Addr} {fd : FuncData}
    {N ps : List Str} {k : Nat} {sp : Sp} (F : Fun K x qual st f fd) (S : FnScope N ps (defScope st)) (len : ∀ xs H Q E, sp xs H Q E → xs.length = ps.length)
    (hbody : ∀ (cdv : Value) (A : Around) (out : List Env) (s : Shared) (H : Hp) (xs : List V) (Q : VK) (E : XK), A.guards = some [] →
      Room k (A.deeper (envOfC qual (defScope st) s.heap.objs.size f cdv)) → sp xs H Q E →
      ∃ t, PSs (cxOf (L2.CX P w) P w K mg base N qual (defScope st) f cdv A out s H E) (defBody st) t ∧
        t { nx := fun _ H' => Q .non H', rt := Q } (start N xs) H) :
    FnG P w K mg base (L2.CX P w) (k + 1) f fd ps sp := by
  obtain ⟨oc, od, kV, doc, pm, an, cdv, ct, osl, rfl, lk, hcd⟩ := F.ex
  constructor
  · exact len
  intro A out s H args us xs Q E gA hr e0 hb r hsp
  have old : ∀ b o, base.get? b = some o → s.heap.get? b = some o := fun b o q => (e0.bs b o q).1
  have KX : K.In s.heap := e0.mod.kin.keeps old
  have lim : s.heap.NoLimit := e0.mod.nolimit.keeps old
  refine codeAny_call_function hr.depth (KX _ _ lk) rfl S.co S.gen rfl (PySem.W.codeRec_of KX hcd) (hb _ _ _ _ ?_)
  refine wpAny_newFunctionEnv_cells S.kind (fun y hy => ?_) fun env he s1 x1 => ?_
  · have q := S.par y.1 (List.of_mem_zip (a := y.1) (b := y.2) hy).1
    exact q.elim .inl fun q => .inr ⟨q, PySem.W.cellsFrom_some _ _ _ (.inl q)⟩
  · subst he
    refine ⟨lim.keeps x1.toInCall.keep, codeAny_func ?_⟩
    obtain ⟨t, ht, hq⟩ := hbody cdv A out s H xs Q E gA (hr.deeper _) hsp
    have I := inv_start (CX := L2.CX P w) (P := P) (w := w) (K := K) (mg := mg) (base := base) (N := N) (ps := ps) (E := E) S hr.hd e0 (len _ _ _ _ hsp) r x1
    refine wpAny_mono (ht.run [] s1 (start N xs) H _ I hq) (fun fl s2 hs => ?_) fun _ _ z => z
    match fl, hs with
    | .ret u, ⟨v, σ', H', J, rv, q⟩ => exact ⟨v, H', J.os, J.bare, J.base, J.hok, rv, q⟩
    | .next, ⟨σ', H', J, q⟩ => exact ⟨V.non, H', J.os, J.bare, J.base, J.hok, rfl, q⟩
    | .brk, ⟨_, _, _, q⟩ => exact q.elim
    | .cont, ⟨_, _, _, q⟩ => exact q.elim
structure CalX (P : Program) (w : World) (K : PySem.W.Frag) (mg : Str → Option Value) (base : Heap) (k : Nat) (x : Str) (ps : List Str) (sp : Sp) : Prop where
  ex : ∃ f fd, FnG P w K mg base (L2.CX P w) k f fd ps sp ∧ mg x = some (.ref f) ∧ PySem.W.keepIn K (.ref f) = true ∧ Binds K fd ps []
theorem calOkX {P : Program} {w : World} {K : PySem.W.Frag} {mg : Str → Option Value} {base : Heap} {x : Str} {st : Stmt} {N ps : List Str} {k : Nat} {sp : Sp}
    (D : DefAt K mg x st ps) (S : FnScope N ps (defScope st)) (len : ∀ xs H Q E, sp xs H Q E → xs.length = ps.length)
    (hbody : ∀ (f : Addr) (cdv : Value) (A : Around) (out : List Env) (s : Shared) (H : Hp) (xs : List V) (Q : VK) (E : XK), A.guards = some [] →
      Room k (A.deeper (envOfC x (defScope st) s.heap.objs.size f cdv)) → sp xs H Q E →
      ∃ t, PSs (cxOf (L2.CX P w) P w K mg base N x (defScope st) f cdv A out s H E) (defBody st) t ∧
        t { nx := fun _ H' => Q .non H', rt := Q } (start N xs) H) : CalX P w K mg base (k + 1) x ps sp := by
  obtain ⟨f, fd, F, m, b⟩ := D.ex
  exact ⟨f, fd, okGX F S len (hbody f), m, F.kp, Binds.all b⟩
section
variable {X : Cx} {CX : CXT} {k j : Nat} {f : Addr} {fd : FuncData} {ps : List Str} {sp : Sp} {E : L2.St → XK} {x : Str} {p pos : Pos} {e : Expr} {es : List Expr} {t : TA}
theorem runGS {pins : List (Addr × Obj)} {σ : L2.St} {H : Hp} {s : Shared} {Q : VK} {us : List Value} {xs : List V}
    (F : FnG X.prog X.w X.K X.mg X.base CX k f fd ps sp) (hgd : X.A.guards = some []) (hr : Room k X.A) (hb : Binds X.K fd ps []) (hx : PassesAt CX X σ (E σ))
    (I : Inv X pins σ H s) (r : Vals xs us) (h : sp xs H Q (E σ)) : wpAny (model X.prog X.w) X.A (call (.ref f) us) (EP X pins σ Q) X.xe s := by
  have sz : us.length = ps.length := r.length.symm.trans (F.len _ _ _ _ h)
  have body := F.go X.A X.stack s H ⟨us, []⟩ us xs Q (E σ) hgd hr I.env0 (by have := hb s us I.kIn (by rw [List.append_nil]; exact sz); rwa [List.append_nil] at this) r h
  refine wpAny_call (codeAny_mono body fun res t hq => ?_)
  match res, hq with
  | .error e, hq => exact hx pins H s e t I hq
  | .ok (.ret u), hq => exact I.after hq
  | .ok .next, hq => exact hq.elim
  | .ok .brk, hq => exact hq.elim
  | .ok .cont, hq => exact hq.elim
theorem pe_gS (F : FnG X.prog X.w X.K X.mg X.base CX k f fd ps sp)
    (hgd : X.A.guards = some []) (hr : Room k X.A) (hg : Gl X x) (hm : X.mg x = some (.ref f)) (hk : PySem.W.keepIn X.K (.ref f) = true)
    (hb : Binds X.K fd ps []) (hx : ∀ σ, PassesAt CX X σ (E σ)) (ha : PA X (e :: es) t)
    (hdb : (x == ("__debug__" : Str)) = false := by decide)
    (he : starEach (e :: es) X.env = (false, eval e X.env) :: starEach es X.env := by rfl)
    (hpl : (backTo pos (starEach es X.env)).any (·.1) = false := by rfl) :
    PE X (.Call (.Name x p) (e :: es) [] pos) (tCallS sp E t) :=
  ⟨fun pins s σ H Q I h => wpAny_Call_Name_kw (ld_glob I hg hm
    (PySem.W.callWith_K (h₀ := X.base) I.ok.mod.kin hk
      (thn (ha.run pos pins s σ H _ I h) fun us s1 ⟨xs, H1, I1, r, q⟩ => ⟨I1.kIn, runGS F hgd hr hb (hx σ) I1 r q⟩) he hpl) hdb)⟩
/-- a call of a def that may raise; what it lets out goes on to W -/
theorem pe_kx {W : WX} (c : CalX X.prog X.w X.K X.mg X.base k x ps sp) (tk : Takes X W) (hgd : X.A.guards = some []) (hr : Room j X.A) (hk : k ≤ j) (hg : Gl X x) (ha : PA X (e :: es) t)
    (hdb : (x == ("__debug__" : Str)) = false := by decide)
    (he : starEach (e :: es) X.env = (false, eval e X.env) :: starEach es X.env := by rfl)
    (hpl : (backTo pos (starEach es X.env)).any (·.1) = false := by rfl) :
    PE X (.Call (.Name x p) (e :: es) [] pos) (tCallS sp (WE W) t) := by
  obtain ⟨f, fd, F, m, kp, b⟩ := c.ex
  exact pe_gS F hgd (hr.mono hk) hg m kp b (fun σ => passAt tk σ) ha hdb he hpl
end
/-- a class of the text that is an exception over a built-in one, without an own __init__ -/
structure ErrAt (K : PySem.W.Frag) (mg : Str → Option Value) (x : Str) (C : Addr) (bm : List Value) (nid : String) : Prop where
  at_ : mg x = some (.ref C)
  exc : PySem.W.excIn K C bm nid = true
  keep : PySem.W.keepIn K (.ref C) = true
  base : PySem.W.subIn K (.ref C) (.type "BaseException") = some true
  ty : PySem.W.typeIn K (.ref C) = some (.type "type")
abbrev veL : List Value := [.type "ValueError", .type "Exception", .type "BaseException", .type "object"]
end G

set_option Elab.async false
set_option linter.all false
set_option maxRecDepth 100000
set_option maxHeartbeats 4000000
namespace G
open PySem PySem.W PySem.Calls PyProof.Rows
section
variable {prog : Program} {w : World} {A : Around} {E : Value → Shared → Prop} {R : Result → Shared → Prop} {s : Shared} {K : Frag} {B : String} {bmB : List Value}
/-- a local name of a def without cells -/
theorem ld_own {M : Model} {s : Shared} {name : Str} {scope : Scope} {L a : Addr} {cd : Value} {m : Str → Option Value} {x : Str} {pos : Pos} {v : Value} {Q : Value → Shared → Prop} {A : Around} {E : Value → Shared → Prop} (hn : s.heap.Ns L m) (hv : m x = some v) (h : Q v s)
    (hk : scope.kind = .function := by rfl) (hl : (envOfC name scope L a cd).kindOf x = some .local := by rfl) (hd : (x == ("__debug__" : Str)) = false := by decide) :
    wpAny M A (eval (.Name x pos) (envOfC name scope L a cd)) Q E s := wpAny_Name (wpAny_loadName_local hk hl hn hv h) hd
/-- the first field that is stored in a fresh exception of any base -/
theorem first_store {name : Str} {tk : Tok} {v : Value} {x C t : Addr} (SF : StoreFacts B bmB "object.__setattr__" "object") (X : K.In s.heap) (hx : s.heap.get? x = some (excObj C t none .none)) (ov : excOver K C bmB = true) (tn : takerIn K C name = some none) (hd : hasDictIn K C = true)
    (hq : ∀ h' tk' dx, (∀ b o, b ≠ x → s.heap.get? b = some o → h'.get? b = some o) → s.heap.objs.size ≤ dx → dx ≠ x → h'.get? x = some (excObj C t (some dx) .none) →
      h'.Ns1 dx (fun y => if y = name then some v else none) → R (.ok (.ret .none)) { s with heap := h', toks := tk' }) :
    codeAny (model prog w) A (.call (.builtin "object.__setattr__") ⟨[.ref x, .str name tk, v], []⟩) R s := by
  have low : x < s.heap.objs.size := Heap.lt_size hx
  refine osa_openX (od := none) SF X ⟨hx, rfl, rfl, trivial⟩ ov tn fun b => ?_
  obtain ⟨cd, hc, hd'⟩ := any_some hd
  refine wpAny_bind (wpAny_pure (wpAny_bind (instanceDict_exc hx (looks_clsIn X hc) hd' ?_)))
  have ne : x ≠ s.heap.objs.size := Nat.ne_of_lt low
  have hp : (s.heap.push (dictOf [] 0)).get? x = some (excObj C t none .none) := Heap.get?_push_of_some _ hx
  refine PySem.HandSPX.store_in_new (hp := (s.heap.push (dictOf [] 0)).update x fun o => { o with dict := some s.heap.objs.size }) ⟨_, #[], _, (Heap.get?_update_ne _ _ _ _ ne.symm).trans (Heap.get?_push_size _ rfl), rfl, fun e he => absurd he (by simp), fun _ => rfl⟩ fun h' tk' n sb => ?_
  refine hq h' tk' s.heap.objs.size (fun y o hy e => ?_) (Nat.le_refl _) ne.symm ?_ n
  · exact (sb.2 y (Nat.ne_of_lt (Heap.lt_size e))).trans ((Heap.get?_update_ne _ _ _ _ hy).trans (Heap.get?_push_of_some _ e))
  · exact (sb.2 x ne).trans (Heap.get?_update_self _ hp rfl)
end
end G

set_option Elab.async false
set_option linter.all false
set_option maxRecDepth 100000
set_option maxHeartbeats 4000000
namespace G
open PySem PySem.Spec PyProof.Rows L2
/-! ## Promises with a switch: gq = true asks for empty guards (texts of containers), gq = false asks nothing (so a lambda may call) -/
structure FnQ (gq : Bool) (P : Program) (w : World) (K : PySem.W.Frag) (mg : Str → Option Value) (base : Heap)
    (CX : CXT) (k : Nat) (f : Addr) (fd : FuncData) (ps : List Str) (sp : Sp) : Prop where
  len : ∀ xs H Q E, sp xs H Q E → xs.length = ps.length
  go : ∀ (A : Around) (out : List Env) (s : Shared) (H : Hp) (args : Args) (us : List Value) (xs : List V) (Q : VK) (E : XK),
    (gq = true → A.guards = some []) → Room k A → Env0 P w K mg base A out s H → BindsTo s fd args (ps.zip us) → Vals xs us → sp xs H Q E →
    codeAny (model P w) A (.call (.ref f) args) (CR CX out P w H s Q E) s
theorem FnQ.g {gq P w K mg base CX k f fd ps sp} (F : FnQ gq P w K mg base CX k f fd ps sp) : FnG P w K mg base CX k f fd ps sp :=
  ⟨F.len, fun A out s H args us xs Q E hg => F.go A out s H args us xs Q E fun _ => hg⟩
theorem FnQ.ok {P w K mg base CX k f fd ps sp} (F : FnQ false P w K mg base CX k f fd ps sp) : FnOk P w K mg base CX k f fd ps sp :=
  ⟨F.len, fun A out s H args us xs Q E => F.go A out s H args us xs Q E fun z => Bool.noConfusion z⟩
theorem FnQ.mono {gq P w K mg base CX j k f fd ps sp} (F : FnQ gq P w K mg base CX j f fd ps sp) (h : j ≤ k) : FnQ gq P w K mg base CX k f fd ps sp :=
  ⟨F.len, fun A out s H args us xs Q E hg hr => F.go A out s H args us xs Q E hg (hr.mono h)⟩
section
variable {gq : Bool} {X : Cx} {CX : CXT} {k j : Nat} {f : Addr} {fd : FuncData} {ps : List Str} {sp : Sp} {E : L2.St → XK} {x : Str} {p pos : Pos} {e : Expr} {es : List Expr} {t : TA}
theorem runQ {pins : List (Addr × Obj)} {σ : L2.St} {H : Hp} {s : Shared} {Q : VK} {us : List Value} {xs : List V}
    (F : FnQ gq X.prog X.w X.K X.mg X.base CX k f fd ps sp) (hgd : gq = true → X.A.guards = some []) (hr : Room k X.A) (hb : Binds X.K fd ps []) (hx : PassesAt CX X σ (E σ))
    (I : Inv X pins σ H s) (r : Vals xs us) (h : sp xs H Q (E σ)) : wpAny (model X.prog X.w) X.A (call (.ref f) us) (EP X pins σ Q) X.xe s := by
  have sz : us.length = ps.length := r.length.symm.trans (F.len _ _ _ _ h)
  have body := F.go X.A X.stack s H ⟨us, []⟩ us xs Q (E σ) hgd hr I.env0 (by have := hb s us I.kIn (by rw [List.append_nil]; exact sz); rwa [List.append_nil] at this) r h
  refine wpAny_call (codeAny_mono body fun res t hq => ?_)
  match res, hq with
  | .error e, hq => exact hx pins H s e t I hq
  | .ok (.ret u), hq => exact I.after hq
  | .ok .next, hq => exact hq.elim
  | .ok .brk, hq => exact hq.elim
  | .ok .cont, hq => exact hq.elim
theorem pe_q (F : FnQ gq X.prog X.w X.K X.mg X.base CX k f fd ps sp)
    (hgd : gq = true → X.A.guards = some []) (hr : Room k X.A) (hg : Gl X x) (hm : X.mg x = some (.ref f)) (hk : PySem.W.keepIn X.K (.ref f) = true)
    (hb : Binds X.K fd ps []) (hx : ∀ σ, PassesAt CX X σ (E σ)) (ha : PA X (e :: es) t)
    (hdb : (x == ("__debug__" : Str)) = false := by decide)
    (he : starEach (e :: es) X.env = (false, eval e X.env) :: starEach es X.env := by rfl)
    (hpl : (backTo pos (starEach es X.env)).any (·.1) = false := by rfl) :
    PE X (.Call (.Name x p) (e :: es) [] pos) (tCallS sp E t) :=
  ⟨fun pins s σ H Q I h => wpAny_Call_Name_kw (ld_glob I hg hm
    (PySem.W.callWith_K (h₀ := X.base) I.ok.mod.kin hk
      (thn (ha.run pos pins s σ H _ I h) fun us s1 ⟨xs, H1, I1, r, q⟩ => ⟨I1.kIn, runQ F hgd hr hb (hx σ) I1 r q⟩) he hpl) hdb)⟩
end
/-- a def that raises nothing -/
structure CalQ (gq : Bool) (P : Program) (w : World) (K : PySem.W.Frag) (mg : Str → Option Value) (base : Heap) (k : Nat) (x : Str) (ps : List Str) (sp : Sp) : Prop where
  ex : ∃ f fd, FnQ gq P w K mg base CX0 k f fd ps sp ∧ mg x = some (.ref f) ∧ PySem.W.keepIn K (.ref f) = true ∧ Binds K fd ps []
/-- a def that may raise -/
structure CalXQ (gq : Bool) (P : Program) (w : World) (K : PySem.W.Frag) (mg : Str → Option Value) (base : Heap) (k : Nat) (x : Str) (ps : List Str) (sp : Sp) : Prop where
  ex : ∃ f fd, FnQ gq P w K mg base (L2.CX P w) k f fd ps sp ∧ mg x = some (.ref f) ∧ PySem.W.keepIn K (.ref f) = true ∧ Binds K fd ps []
theorem CalQ.g {gq P w K mg base k x ps sp} (c : CalQ gq P w K mg base k x ps sp) : CalG P w K mg base k x ps sp :=
  let ⟨f, fd, F, r⟩ := c.ex
  ⟨f, fd, F.g, r⟩
theorem CalXQ.x {gq P w K mg base k x ps sp} (c : CalXQ gq P w K mg base k x ps sp) : CalX P w K mg base k x ps sp :=
  let ⟨f, fd, F, r⟩ := c.ex
  ⟨f, fd, F.g, r⟩
theorem okQ {gq : Bool} {CX : CXT} {P : Program} {w : World} {K : PySem.W.Frag} {mg : Str → Option Value} {base : Heap} {x qual : Str} {st : Stmt} {f : Addr} {fd : FuncData}
    {N ps : List Str} {k : Nat} {sp : Sp} (F : Fun K x qual st f fd) (S : FnScope N ps (defScope st)) (len : ∀ xs H Q E, sp xs H Q E → xs.length = ps.length)
    (hbody : ∀ (cdv : Value) (A : Around) (out : List Env) (s : Shared) (H : Hp) (xs : List V) (Q : VK) (E : XK), (gq = true → A.guards = some []) →
      Room k (A.deeper (envOfC qual (defScope st) s.heap.objs.size f cdv)) → sp xs H Q E →
      ∃ t, PSs (cxOf CX P w K mg base N qual (defScope st) f cdv A out s H E) (defBody st) t ∧
        t { nx := fun _ H' => Q .non H', rt := Q } (start N xs) H) :
    FnQ gq P w K mg base CX (k + 1) f fd ps sp := by
  obtain ⟨oc, od, kV, doc, pm, an, cdv, ct, osl, rfl, lk, hcd⟩ := F.ex
  constructor
  · exact len
  intro A out s H args us xs Q E gA hr e0 hb r hsp
  have old : ∀ b o, base.get? b = some o → s.heap.get? b = some o := fun b o q => (e0.bs b o q).1
  have KX : K.In s.heap := e0.mod.kin.keeps old
  have lim : s.heap.NoLimit := e0.mod.nolimit.keeps old
  refine codeAny_call_function hr.depth (KX _ _ lk) rfl S.co S.gen rfl (PySem.W.codeRec_of KX hcd) (hb _ _ _ _ ?_)
  refine wpAny_newFunctionEnv_cells S.kind (fun y hy => ?_) fun env he s1 x1 => ?_
  · have q := S.par y.1 (List.of_mem_zip (a := y.1) (b := y.2) hy).1
    exact q.elim .inl fun q => .inr ⟨q, PySem.W.cellsFrom_some _ _ _ (.inl q)⟩
  · subst he
    refine ⟨lim.keeps x1.toInCall.keep, codeAny_func ?_⟩
    obtain ⟨t, ht, hq⟩ := hbody cdv A out s H xs Q E gA (hr.deeper _) hsp
    have I := inv_start (CX := CX) (P := P) (w := w) (K := K) (mg := mg) (base := base) (N := N) (ps := ps) (E := E) S hr.hd e0 (len _ _ _ _ hsp) r x1
    refine wpAny_mono (ht.run [] s1 (start N xs) H _ I hq) (fun fl s2 hs => ?_) fun _ _ z => z
    match fl, hs with
    | .ret u, ⟨v, σ', H', J, rv, q⟩ => exact ⟨v, H', J.os, J.bare, J.base, J.hok, rv, q⟩
    | .next, ⟨σ', H', J, q⟩ => exact ⟨V.non, H', J.os, J.bare, J.base, J.hok, rfl, q⟩
    | .brk, ⟨_, _, _, q⟩ => exact q.elim
    | .cont, ⟨_, _, _, q⟩ => exact q.elim
theorem calOkQ {gq : Bool} {P : Program} {w : World} {K : PySem.W.Frag} {mg : Str → Option Value} {base : Heap} {x : Str} {st : Stmt} {N ps : List Str} {k : Nat} {sp : Sp}
    (D : DefAt K mg x st ps) (S : FnScope N ps (defScope st)) (len : ∀ xs H Q E, sp xs H Q E → xs.length = ps.length)
    (hbody : ∀ (f : Addr) (cdv : Value) (A : Around) (out : List Env) (s : Shared) (H : Hp) (xs : List V) (Q : VK) (E : XK), (gq = true → A.guards = some []) →
      Room k (A.deeper (envOfC x (defScope st) s.heap.objs.size f cdv)) → sp xs H Q E →
      ∃ t, PSs (cxOf CX0 P w K mg base N x (defScope st) f cdv A out s H E).nox (defBody st) t ∧
        t { nx := fun _ H' => Q .non H', rt := Q } (start N xs) H) : CalQ gq P w K mg base (k + 1) x ps sp := by
  obtain ⟨f, fd, F, m, b⟩ := D.ex
  refine ⟨f, fd, okQ F S len (fun cdv A out s H xs Q E g r h => ?_), m, F.kp, Binds.all b⟩
  obtain ⟨t, ht, q⟩ := hbody f cdv A out s H xs Q E g r h
  exact ⟨t, ht.nox, q⟩
theorem calOkXQ {gq : Bool} {P : Program} {w : World} {K : PySem.W.Frag} {mg : Str → Option Value} {base : Heap} {x : Str} {st : Stmt} {N ps : List Str} {k : Nat} {sp : Sp}
    (D : DefAt K mg x st ps) (S : FnScope N ps (defScope st)) (len : ∀ xs H Q E, sp xs H Q E → xs.length = ps.length)
    (hbody : ∀ (f : Addr) (cdv : Value) (A : Around) (out : List Env) (s : Shared) (H : Hp) (xs : List V) (Q : VK) (E : XK), (gq = true → A.guards = some []) →
      Room k (A.deeper (envOfC x (defScope st) s.heap.objs.size f cdv)) → sp xs H Q E →
      ∃ t, PSs (cxOf (L2.CX P w) P w K mg base N x (defScope st) f cdv A out s H E) (defBody st) t ∧
        t { nx := fun _ H' => Q .non H', rt := Q } (start N xs) H) : CalXQ gq P w K mg base (k + 1) x ps sp := by
  obtain ⟨f, fd, F, m, b⟩ := D.ex
  exact ⟨f, fd, okQ F S len (hbody f), m, F.kp, Binds.all b⟩
section
variable {gq : Bool} {X : Cx} {k j : Nat} {ps : List Str} {sp : Sp} {x : Str} {p pos : Pos} {e : Expr} {es : List Expr} {t : TA}
theorem pe_kq (c : CalQ gq X.prog X.w X.K X.mg X.base k x ps sp) (hgd : gq = true → X.A.guards = some []) (hr : Room j X.A) (hk : k ≤ j) (hg : Gl X x) (ha : PA X (e :: es) t)
    (hdb : (x == ("__debug__" : Str)) = false := by decide)
    (he : starEach (e :: es) X.env = (false, eval e X.env) :: starEach es X.env := by rfl)
    (hpl : (backTo pos (starEach es X.env)).any (·.1) = false := by rfl) :
    PE X (.Call (.Name x p) (e :: es) [] pos) (tCallS sp (fun _ => E0) t) := by
  obtain ⟨f, fd, F, m, kp, b⟩ := c.ex
  exact pe_q F hgd (hr.mono hk) hg m kp b (fun σ pins H s e s' I c => c.elim) ha hdb he hpl
theorem pe_kxq {W : WX} (c : CalXQ gq X.prog X.w X.K X.mg X.base k x ps sp) (tk : Takes X W) (hgd : gq = true → X.A.guards = some []) (hr : Room j X.A) (hk : k ≤ j) (hg : Gl X x) (ha : PA X (e :: es) t)
    (hdb : (x == ("__debug__" : Str)) = false := by decide)
    (he : starEach (e :: es) X.env = (false, eval e X.env) :: starEach es X.env := by rfl)
    (hpl : (backTo pos (starEach es X.env)).any (·.1) = false := by rfl) :
    PE X (.Call (.Name x p) (e :: es) [] pos) (tCallS sp (WE W) t) := by
  obtain ⟨f, fd, F, m, kp, b⟩ := c.ex
  exact pe_q F hgd (hr.mono hk) hg m kp b (fun σ => passAt tk σ) ha hdb he hpl
end
end G

set_option Elab.async false
set_option linter.all false
set_option maxRecDepth 100000
set_option maxHeartbeats 4000000
/-! # list(zip(x, y)) and what the values of a dict draw: machine rules of my own -/
namespace DZ
open PySem PySem.Spec PyProof.Rows
section
variable {prog : Program} {w : World} {A : Around} {E : Value → Shared → Prop} {s : Shared}
/-- one value more of a dict's values -/
theorem nv_more {J d : Addr} {k ep : Nat} {rs : Array DictEntry} {Q : Value → Shared → Prop} (hJ : s.heap.IsValIter J d k rs.size ep) (hd0 : s.heap.DictRaw d rs ep) (lt : k < rs.size)
    (go : ∀ g, g.IsValIter J d (k + 1) rs.size ep → Heap.SameBut J s.heap g → Q rs[k].val { s with heap := g }) : wpAny (model prog w) A (Builtin.SmallTypes.nextOf (.ref J)) Q E s := by
  obtain ⟨oj, gj, cj, dj⟩ := id hJ
  obtain ⟨ob, gb, cb, db⟩ := id hd0
  have T0 := hJ.typeIs
  unfold Builtin.SmallTypes.nextOf
  refine wpAny_bind (wpAny_callSpecial?_slot (name := Str.ofString "__next__") T0 F.slot_dict_valueiterator_next (wpAny_call_entry F.slot_dict_valueiterator_next T0 F.entry_dict_valueiterator_next ?_ (F.args_dict_valueiterator_next_1 _)))
  refine wpAny_bind (wpAny_pure (wpAny_bind (wpAny_bind ?_)))
  first | refine wpAny_bind (wpAny_typeNameOfWhole_valiter T0 (wpAny_pure ?_)) | refine wpAny_bind (wpAny_typeNameOf_valiter T0 (wpAny_pure ?_))
  refine wpAny_bind (wpAny_fieldsOf gj dj ?_)
  have own0 : Builtin.Dict_items.ownsTuple "dict_valueiterator" = false := by decide
  simp only [own0, Bool.false_eq_true, if_false]
  show wpAny _ _ (if (Value.ref d == Value.none) = true then _ else _) _ _ _
  rw [if_neg (show (Value.ref d == Value.none) ≠ true from Bool.false_ne_true)]
  refine wpAny_bind (wpAny_pure (wpAny_bind (wpAny_dictEntries gb db ?_)))
  rw [if_neg (by simp)]; refine wpAny_bind (wpAny_pure (wpAny_bind (wpAny_dictEpoch gb db ?_))); rw [if_neg (by simp)]
  refine wpAny_pure ?_
  simp only [show ¬ ((k : Int) < 0) from by omega, if_false, Int.toNat_natCast, Array.getElem?_eq_getElem lt]
  refine wpAny_bind ?_
  first | refine wpAny_bind (wpAny_typeNameOfWhole_valiter T0 (wpAny_pure ?_)) | refine wpAny_bind (wpAny_typeNameOf_valiter T0 (wpAny_pure ?_))
  refine wpAny_bind (wpAny_isOneOf_valiter T0 ?_)
  show wpAny _ _ (setField (.ref J) 1 (rawInt ((k : Int) + 1)) >>= _) _ _ _
  refine wpAny_bind (wpAny_setField gj dj (by simp) ?_)
  have J1 : (s.heap.update J (Obj.mapFields (·.setIfInBounds 1 (rawInt ((k : Int) + 1))))).IsValIter J d (k + 1) rs.size ep := ⟨_, Heap.get?_update_self _ gj (Obj.isFreed_of_fields (Obj.data_mapFields dj _)), (Obj.cls_mapFields ..).trans cj, by rw [Obj.data_mapFields dj]; simp [rawInt]⟩
  have T1 : Shared.TypeIs { s with heap := s.heap.update J (Obj.mapFields (·.setIfInBounds 1 (rawInt ((k : Int) + 1)))) } (.ref J) "dict_valueiterator" := J1.typeIs
  refine wpAny_bind (wpAny_holding (wpAny_bind (wpAny_isOneOf_valiter T1 (wpAny_bind (wpAny_isOneOf_valiter T1 ?_)))))
  show wpAny _ _ (pure rs[k].val) _ _ _
  exact wpAny_pure (wpAny_pure ⟨_, rfl, wpAny_pure (go _ J1 (Heap.SameBut.update ..))⟩)
/-- no value is left -/
theorem nv_over {J d : Addr} {k ep : Nat} {rs : Array DictEntry} {Q : Value → Shared → Prop} (calm : A.handled = none) (hJ : s.heap.IsValIter J d k rs.size ep) (hd0 : s.heap.DictRaw d rs ep) (le : rs.size ≤ k)
    (go : ∀ g e, Heap.ExtBut J s.heap g → (∃ o, g.get? e = some o ∧ o.cls = .type "StopIteration") → E (.ref e) { s with heap := g }) : wpAny (model prog w) A (Builtin.SmallTypes.nextOf (.ref J)) Q E s := by
  obtain ⟨oj, gj, cj, dj⟩ := id hJ
  obtain ⟨ob, gb, cb, db⟩ := id hd0
  have T0 := hJ.typeIs
  unfold Builtin.SmallTypes.nextOf
  refine wpAny_bind (wpAny_callSpecial?_slot (name := Str.ofString "__next__") T0 F.slot_dict_valueiterator_next (wpAny_call_entry F.slot_dict_valueiterator_next T0 F.entry_dict_valueiterator_next ?_ (F.args_dict_valueiterator_next_1 _)))
  refine wpAny_bind (wpAny_pure (wpAny_bind (wpAny_bind ?_)))
  first | refine wpAny_bind (wpAny_typeNameOfWhole_valiter T0 (wpAny_pure ?_)) | refine wpAny_bind (wpAny_typeNameOf_valiter T0 (wpAny_pure ?_))
  refine wpAny_bind (wpAny_fieldsOf gj dj ?_)
  have own0 : Builtin.Dict_items.ownsTuple "dict_valueiterator" = false := by decide
  simp only [own0, Bool.false_eq_true, if_false]
  show wpAny _ _ (if (Value.ref d == Value.none) = true then _ else _) _ _ _
  rw [if_neg (show (Value.ref d == Value.none) ≠ true from Bool.false_ne_true)]
  refine wpAny_bind (wpAny_pure (wpAny_bind (wpAny_dictEntries gb db ?_)))
  rw [if_neg (by simp)]; refine wpAny_bind (wpAny_pure (wpAny_bind (wpAny_dictEpoch gb db ?_))); rw [if_neg (by simp)]
  refine wpAny_pure ?_
  simp only [show ¬ ((k : Int) < 0) from by omega, if_false, Int.toNat_natCast, Array.getElem?_eq_none le]
  refine wpAny_bind ?_
  first | refine wpAny_bind (wpAny_typeNameOfWhole_valiter T0 (wpAny_pure ?_)) | refine wpAny_bind (wpAny_typeNameOf_valiter T0 (wpAny_pure ?_))
  show wpAny _ _ (setField (.ref J) 0 .none >>= _) _ _ _
  refine wpAny_bind (wpAny_setField gj dj (by simp) ?_)
  show wpAny _ _ (newExc (.type "StopIteration") [] >>= _) _ _ _
  refine wpAny_bind ?_; simp only [newExc, newTuple]
  refine wpAny_bind (wpAny_newObj_type ?_ (by size_fits)); refine wpAny_bind (m := firstArgMember _ _) (wpAny_of_eq (a := Value.none) (by first | rfl | (simp only [firstArgMember]; rfl)) ?_)
  refine wpAny_newObj_type ?_ (by size_fits); simp only [raiseNew]; refine wpAny_bind (wpAny_handled ?_)
  first | rw [show A.in1.handled = none from calm] | rw [calm]
  refine wpAny_bind (wpAny_pure (wpAny_throw ?_))
  exact go _ _ (((Heap.SameBut.update ..).extBut.push _).push _) ⟨_, Heap.get?_push_size _ rfl, rfl⟩
end
/-- the values of a dict, one by one -/
theorem drawsV {prog : Program} {w : World} {A : Around} (calm : A.handled = none) (J d : Addr) (ne : d ≠ J) (rs : Array DictEntry) (ep : Nat) :
    Draws prog w A J [J, d] rs.size (fun k v => ∃ lt : k < rs.size, v = rs[k].val) (fun k h => h.IsValIter J d k rs.size ep ∧ h.DictRaw d rs ep) where
  live := fun _ _ z => ⟨_, z.1.choose_spec.1⟩
  frame := fun _ _ _ z k => ⟨z.1.at fun o e => k J List.mem_cons_self o e, z.2.at fun o e => k d (List.mem_cons_of_mem _ List.mem_cons_self) o e⟩
  item := fun k s Q E lt z go => nv_more z.1 z.2 lt fun g z1 sb => go _ g s.toks ⟨lt, rfl⟩ ⟨z1, z.2.at fun o e => sb.extBut d o ne e⟩ sb
  done := fun s Q E z go => nv_over calm z.1 z.2 (Nat.le_refl _) go
/-- how a view of a dict's values begins -/
theorem beginV (v d : Addr) (rs : Array DictEntry) (ep : Nat) : Begins (.ref v) { cls := .type "dict_valueiterator", data := .fields #[.ref d, .int 0 0, .int rs.size 0, .int ep 0] } fun h => h.IsValuesView v d ∧ h.DictRaw d rs ep where
  iter := fun prog w A E s Q z q => wpAny_pyIter_values_raw z.1 z.2 q
  keeps := fun h h1 z k => ⟨let ⟨o, e, r⟩ := z.1; ⟨o, k v o e, r⟩, z.2.at fun o e => k d o e⟩
  free := rfl

/-! ## zip, the tuple that it gave still held -/
abbrev ZipHeld (h : Heap) (z TI TO a : Addr) (f : Bool) : Prop := h.get? z = some { cls := .type "zip", data := .fields #[rawInt a, .bool f, .bool false, .ref TI, .ref TO] }
theorem set_if {z a TI TO : Addr} {f : Bool} {prog : Program} {w : World} {A : Around} {E : Value → Shared → Prop} {Q : Bool → Shared → Prop} {hp : Heap} {ge : Array GenState} {dr : Drawn} {tk : Nat} {os : OsState} (hz : ZipHeld hp z TI TO a f)
    (go : ∀ h0, ZipHeld h0 z TI TO a true → Heap.SameBut z hp h0 → Q false ⟨h0, ge, dr, tk, os⟩) :
    wpAny (model prog w) A (if (Value.bool f != Value.bool true) = true then (do setField (Value.ref z) 1 (Value.bool true); pure false) else pure false) Q E ⟨hp, ge, dr, tk, os⟩ := by
  cases f with
  | true =>
    rw [if_neg (show ¬ ((Value.bool true != Value.bool true) = true) from Bool.false_ne_true)]
    exact wpAny_pure (go hp hz (Heap.SameBut.refl _ _))
  | false =>
    rw [if_pos (show (Value.bool false != Value.bool true) = true from rfl)]
    exact wpAny_bind (wpAny_setField_rec hz (by simp) fun h0 e0 s0 => wpAny_pure (go h0 e0 s0))
section
variable {prog : Program} {w : World} {A : Around} {E : Value → Shared → Prop} {s : Shared} {z TI TO i1 i2 a : Addr} {fp1 fp2 : List Addr} {n1 n2 i : Nat} {P1 P2 : Nat → Value → Prop} {St1 St2 : Nat → Heap → Prop} {f : Bool} {oa : Obj}
theorem held_more {Q : Value → Shared → Prop} (S : ZipSep2 z TI TO i1 i2 fp1 fp2) (D1 : Draws prog w A i1 fp1 n1 P1 St1) (D2 : Draws prog w A i2 fp2 n2 P2 St2)
    (hz : ZipHeld s.heap z TI TO a f) (ga : s.heap.get? a = some oa) (hTI : IsTupOf2 s.heap TI (.ref i1) (.ref i2)) (z1 : St1 i s.heap) (z2 : St2 i s.heap) (l1 : i < n1) (l2 : i < n2)
    (go : ∀ x1 x2 g tk, P1 i x1 → P2 i x2 → ZipHeld g z TI TO a true → St1 (i + 1) g → St2 (i + 1) g → IsTupOf2 g s.heap.objs.size x1 x2 → g.objs.size = s.heap.objs.size + 1 →
      (∀ c o, c ≠ z → c ≠ i1 → c ≠ i2 → s.heap.get? c = some o → g.get? c = some o) → Q (.ref s.heap.objs.size) { s with heap := g, toks := tk }) :
    wpAny (model prog w) A (Builtin.«zip.__next__» ⟨[.ref z], []⟩) (fun fin t => ∃ v, fin = .done (.ret v) ∧ Q v t) E s := by
  obtain ⟨hp, ge, dr, tk0, os⟩ := s
  show wpAny _ _ (field (.ref z) 2 >>= _) _ _ _
  refine wpAny_bind (wpAny_field hz rfl (x := .bool false) rfl ?_)
  show wpAny _ _ (field (.ref z) 3 >>= _) _ _ _
  refine wpAny_bind (wpAny_field hz rfl (x := .ref TI) rfl ?_)
  refine wpAny_bind (wpAny_seqItems hTI rfl ?_)
  show wpAny _ _ (Builtin.SmallTypes.ownedTupleIsFree (.ref z) >>= _) _ _ _
  refine wpAny_bind ?_
  unfold Builtin.SmallTypes.ownedTupleIsFree
  refine wpAny_bind (wpAny_field hz rfl (x := rawInt a) rfl ?_)
  show wpAny _ _ (loadIfAlive ((a : Int).toNat) >>= _) _ _ _
  rw [Int.toNat_natCast]
  refine wpAny_bind (PySem.W.kdx_alive ga ?_)
  simp only [Option.isNone_some, Bool.false_eq_true, if_false]
  refine wpAny_bind (wpAny_field hz rfl (x := .bool f) rfl ?_)
  refine set_if hz fun h0 hz0 hs0 => ?_
  simp only [Bool.false_eq_true, if_false]
  rw [← Array.forIn_toList]
  simp only [List.forIn_cons, List.forIn_nil]
  refine wpAny_bind (wpAny_bind (wpAny_bind (wpAny_holding ?_)))
  show wpAny _ _ (Builtin.SmallTypes.nextOf (.ref i1) >>= _) _ _ ⟨h0, ge, dr, tk0, os⟩
  refine wpAny_bind (D1.item i _ _ _ l1 (D1.over z1 hs0 S.zf1) fun x1 p1 t1 e1 y1 b1 => wpAny_pure (wpAny_pure ?_))
  replace b1 : Heap.SameBut i1 h0 p1 := b1
  refine wpAny_bind (wpAny_bind (wpAny_holding ?_))
  show wpAny _ _ (Builtin.SmallTypes.nextOf (.ref i2) >>= _) _ _ ⟨p1, ge, dr, t1, os⟩
  refine wpAny_bind (D2.item i _ _ _ l2 (D2.over (D2.over z2 hs0 S.zf2) b1 S.sep1_2) fun x2 p2 t2 e2 y2 b2 => wpAny_pure (wpAny_pure (wpAny_pure ?_)))
  replace b2 : Heap.SameBut i2 p1 p2 := b2
  refine wpAny_bind (wpAny_newTuple (hsz := by show 2 ≤ sizeLine; decide) (wpAny_pure ⟨_, rfl, ?_⟩))
  have sz : p2.objs.size = hp.objs.size := by rw [b2.1, b1.1, hs0.1]
  have up : ∀ c o, c ≠ z → c ≠ i1 → c ≠ i2 → hp.get? c = some o → p2.get? c = some o := fun c o c0 c1 c2 e => b2.extBut _ _ c2 (b1.extBut _ _ c1 (hs0.extBut _ _ c0 e))
  have zz : ZipHeld p2 z TI TO a true := b2.extBut _ _ S.zi2 (b1.extBut _ _ S.zi1 hz0)
  show Q (.ref p2.objs.size) ⟨p2.push _, ge, dr, t2, os⟩
  rw [sz]
  exact go x1 x2 _ t2 e1 e2 (Heap.get?_push_of_some _ zz) (D1.frame _ _ _ (D1.over y1 b2 S.sep2_1) fun b hb o e => Heap.get?_push_of_some _ e) (D2.frame _ _ _ y2 fun b hb o e => Heap.get?_push_of_some _ e)
    (by rw [← sz]; exact Heap.get?_push_size _ rfl) (by rw [Heap.size_push, sz]) fun c o c0 c1 c2 e => Heap.get?_push_of_some _ (up c o c0 c1 c2 e)
theorem held_over {Q : Fin → Shared → Prop} (S : ZipSep2 z TI TO i1 i2 fp1 fp2) (D1 : Draws prog w A i1 fp1 n1 P1 St1) (D2 : Draws prog w A i2 fp2 n2 P2 St2)
    (hz : ZipHeld s.heap z TI TO a f) (ga : s.heap.get? a = some oa) (hTI : IsTupOf2 s.heap TI (.ref i1) (.ref i2)) (z1 : St1 i s.heap) (z2 : St2 i s.heap) (l1 : i ≤ n1) (l2 : i ≤ n2) (fin : i = n1 ∨ i = n2)
    (go : ∀ g tk e, (∀ c o, c ≠ z → c ≠ i1 → c ≠ i2 → s.heap.get? c = some o → g.get? c = some o) → (∃ o, g.get? e = some o ∧ o.cls = .type "StopIteration") → E (.ref e) { s with heap := g, toks := tk }) :
    wpAny (model prog w) A (Builtin.«zip.__next__» ⟨[.ref z], []⟩) Q E s := by
  obtain ⟨hp, ge, dr, tk0, os⟩ := s
  show wpAny _ _ (field (.ref z) 2 >>= _) _ _ _
  refine wpAny_bind (wpAny_field hz rfl (x := .bool false) rfl ?_); show wpAny _ _ (field (.ref z) 3 >>= _) _ _ _
  refine wpAny_bind (wpAny_field hz rfl (x := .ref TI) rfl (wpAny_bind (wpAny_seqItems hTI rfl ?_)))
  show wpAny _ _ (Builtin.SmallTypes.ownedTupleIsFree (.ref z) >>= _) _ _ _
  refine wpAny_bind ?_
  unfold Builtin.SmallTypes.ownedTupleIsFree
  refine wpAny_bind (wpAny_field hz rfl (x := rawInt a) rfl ?_)
  show wpAny _ _ (loadIfAlive ((a : Int).toNat) >>= _) _ _ _
  rw [Int.toNat_natCast]
  refine wpAny_bind (PySem.W.kdx_alive ga ?_); simp only [Option.isNone_some, Bool.false_eq_true, if_false]
  refine wpAny_bind (wpAny_field hz rfl (x := .bool f) rfl (set_if hz fun h0 hz0 hs0 => ?_))
  simp only [Bool.false_eq_true, if_false]
  rw [← Array.forIn_toList]; simp only [List.forIn_cons, List.forIn_nil]
  refine wpAny_bind (wpAny_bind (wpAny_bind (wpAny_holding ?_)))
  show wpAny _ _ (Builtin.SmallTypes.nextOf (.ref i1) >>= _) _ _ ⟨h0, ge, dr, tk0, os⟩
  by_cases lt : i < n1
  · refine wpAny_bind (D1.item i _ _ _ lt (D1.over z1 hs0 S.zf1) fun x1 p1 t1 e1 y1 b1 => wpAny_pure (wpAny_pure ?_))
    replace b1 : Heap.SameBut i1 h0 p1 := b1
    have en : i = n2 := by omega
    refine wpAny_bind (wpAny_bind (wpAny_holding ?_))
    show wpAny _ _ (Builtin.SmallTypes.nextOf (.ref i2) >>= _) _ _ ⟨p1, ge, dr, t1, os⟩
    refine wpAny_bind (D2.done ⟨p1, ge, dr, t1, os⟩ _ _ (by rw [← en]; exact D2.over (D2.over z2 hs0 S.zf2) b1 S.sep1_2) fun q e hq he => ?_)
    exact go q t1 e (fun c o c0 c1 c2 x => hq _ _ c2 (b1.extBut _ _ c1 (hs0.extBut _ _ c0 x))) he
  · have en : i = n1 := by omega
    refine wpAny_bind (D1.done ⟨h0, ge, dr, tk0, os⟩ _ _ (by rw [← en]; exact D1.over z1 hs0 S.zf1) fun q e hq he => ?_)
    exact go q tk0 e (fun c o c0 c1 c2 x => hq _ _ c1 (hs0.extBut _ _ c0 x)) he
end
end DZ

set_option Elab.async false
set_option linter.all false
set_option maxRecDepth 100000
set_option maxHeartbeats 4000000
/-! # list(z) of a zip z of two, at the machine -/
namespace DZ
open PySem PySem.Spec PyProof.Rows
/-- a zip as it stands before its turn k; S: the list that is filled -/
structure ZS (z TI TO i1 i2 S : Addr) (St1 St2 : Nat → Heap → Prop) (k : Nat) (h : Heap) : Prop where
  zip : IsZip h z TI TO .none ∨ ∃ a f oa, ZipHeld h z TI TO a f ∧ h.get? a = some oa ∧ S < a
  ti : IsTupOf2 h TI (.ref i1) (.ref i2)
  to : ∃ a1 a2, IsTupOf2 h TO a1 a2
  s1 : St1 k h
  s2 : St2 k h
/-- the pairs that were drawn -/
structure ZG (P1 P2 : Nat → Value → Prop) (lo : Addr) (h : Heap) (as : List Addr) : Prop where
  rise : as.Pairwise (· < ·)
  over : ∀ a ∈ as, lo < a
  pair : ∀ (j : Nat) (a : Addr), as[j]? = some a → ∃ x1 x2, P1 j x1 ∧ P2 j x2 ∧ IsTupOf2 h a x1 x2
theorem ZG.lt {P1 P2 : Nat → Value → Prop} {lo : Addr} {h : Heap} {as : List Addr} (g : ZG P1 P2 lo h as) {a : Addr} (m : a ∈ as) : a < h.objs.size := by
  obtain ⟨j, e⟩ := List.mem_iff_getElem?.mp m
  obtain ⟨_, _, _, _, t⟩ := g.pair j a e
  exact Heap.lt_size t
/-- what lies apart -/
structure ZL (z TI TO i1 i2 S : Addr) (fp1 fp2 : List Addr) : Prop where
  sep : ZipSep2 z TI TO i1 i2 fp1 fp2
  z : z < S
  ti : TI < S
  to : TO < S
  i1 : i1 < S
  i2 : i2 < S
  f1 : S ∉ fp1
  f2 : S ∉ fp2
section
variable {prog : Program} {w : World} {A : Around} {E : Value → Shared → Prop} {s : Shared} {z TI TO i1 i2 S : Addr} {fp1 fp2 : List Addr} {n1 n2 k : Nat} {P1 P2 : Nat → Value → Prop} {St1 St2 : Nat → Heap → Prop}
theorem ZS.keep (L : ZL z TI TO i1 i2 S fp1 fp2) (D1 : Draws prog w A i1 fp1 n1 P1 St1) (D2 : Draws prog w A i2 fp2 n2 P2 St2) {h g : Heap} (x : ZS z TI TO i1 i2 S St1 St2 k h) (up : ∀ b o, b ≠ S → h.get? b = some o → g.get? b = some o) : ZS z TI TO i1 i2 S St1 St2 k g where
  zip := x.zip.imp (fun e => up _ _ (Nat.ne_of_lt L.z) e) fun ⟨a, f, oa, e, ga, lt⟩ => ⟨a, f, oa, up _ _ (Nat.ne_of_lt L.z) e, up _ _ (Nat.ne_of_gt lt) ga, lt⟩
  ti := up _ _ (Nat.ne_of_lt L.ti) x.ti
  to := let ⟨a1, a2, e⟩ := x.to; ⟨a1, a2, up _ _ (Nat.ne_of_lt L.to) e⟩
  s1 := D1.frame _ _ _ x.s1 fun b hb o e => up b o (fun q => L.f1 (q ▸ hb)) e
  s2 := D2.frame _ _ _ x.s2 fun b hb o e => up b o (fun q => L.f2 (q ▸ hb)) e
theorem z_more {Q : Option Value → Shared → Prop} (L : ZL z TI TO i1 i2 S fp1 fp2) (D1 : Draws prog w A.in1 i1 fp1 n1 P1 St1) (D2 : Draws prog w A.in1 i2 fp2 n2 P2 St2) (x : ZS z TI TO i1 i2 S St1 St2 k s.heap) (hS : S < s.heap.objs.size) (l1 : k < n1) (l2 : k < n2)
    (go : ∀ x1 x2 g tk, P1 k x1 → P2 k x2 → ZS z TI TO i1 i2 S St1 St2 (k + 1) g → IsTupOf2 g s.heap.objs.size x1 x2 → g.objs.size = s.heap.objs.size + 1 → (∀ c o, c ≠ z → c ≠ TO → c ≠ i1 → c ≠ i2 → s.heap.get? c = some o → g.get? c = some o) →
      Q (some (.ref s.heap.objs.size)) { s with heap := g, toks := tk }) : wpAny (model prog w) A (pyNext (.ref z)) Q E s := by
  obtain ⟨a1, a2, eo⟩ := x.to
  have B := L.sep
  rcases x.zip with ez | ⟨a, f, oa, ez, ga, lt⟩
  · exact wpAny_pyNext_zipD2_item B D1 D2 ez x.ti eo x.s1 x.s2 l1 l2 fun x1 x2 g tk p1 p2 b1 b2 d1 d2 b5 b6 up =>
      go x1 x2 g tk p1 p2 ⟨.inr ⟨_, false, _, b1, b5, hS⟩, up _ _ B.TIz B.TITO B.TIi1 B.TIi2 x.ti, ⟨_, _, b2⟩, d1, d2⟩ b5 b6 up
  · have T0 : s.TypeIs (.ref z) "zip" := ⟨_, ez, rfl⟩
    unfold pyNext
    refine wpAny_bind (wpAny_attempt (wpAny_callSpecial?_slot (name := Str.ofString "__next__") T0 F.slot_zip_next (wpAny_call_entry F.slot_zip_next T0 F.entry_zip_next ?_ (F.args_zip_next_1 _))))
    refine held_more B D1 D2 ez ga x.ti x.s1 x.s2 l1 l2 fun x1 x2 g tk p1 p2 b1 d1 d2 b5 b6 up => wpAny_pure ?_
    refine go x1 x2 g tk p1 p2 ⟨.inr ⟨a, true, oa, b1, up a oa (Nat.ne_of_gt (Nat.lt_trans L.z lt)) (Nat.ne_of_gt (Nat.lt_trans L.i1 lt)) (Nat.ne_of_gt (Nat.lt_trans L.i2 lt)) ga, lt⟩, up _ _ B.TIz B.TIi1 B.TIi2 x.ti, ⟨a1, a2, up _ _ B.TOz B.Ti1 B.Ti2 eo⟩, d1, d2⟩ b5 b6 fun c o c0 _ c2 c3 e => up c o c0 c2 c3 e
theorem z_over {Q : Option Value → Shared → Prop} (L : ZL z TI TO i1 i2 S fp1 fp2) (D1 : Draws prog w A.in1 i1 fp1 n1 P1 St1) (D2 : Draws prog w A.in1 i2 fp2 n2 P2 St2) (x : ZS z TI TO i1 i2 S St1 St2 k s.heap) (l1 : k ≤ n1) (l2 : k ≤ n2) (fin : k = n1 ∨ k = n2)
    (go : ∀ g tk, (∀ c o, c ≠ z → c ≠ TO → c ≠ i1 → c ≠ i2 → s.heap.get? c = some o → g.get? c = some o) → Q none { s with heap := g, toks := tk }) : wpAny (model prog w) A (pyNext (.ref z)) Q E s := by
  obtain ⟨a1, a2, eo⟩ := x.to
  rcases x.zip with ez | ⟨a, f, oa, ez, ga, lt⟩
  · exact wpAny_pyNext_zipD2_end L.sep D1 D2 ez x.ti eo x.s1 x.s2 l1 l2 fin go
  · have T0 : s.TypeIs (.ref z) "zip" := ⟨_, ez, rfl⟩
    unfold pyNext
    refine wpAny_bind (wpAny_attempt (wpAny_callSpecial?_slot (name := Str.ofString "__next__") T0 F.slot_zip_next (wpAny_call_entry F.slot_zip_next T0 F.entry_zip_next ?_ (F.args_zip_next_1 _))))
    refine held_over L.sep D1 D2 ez ga x.ti x.s1 x.s2 l1 l2 fin fun g tk e up ⟨o, eo, ec⟩ => ?_
    refine wpAny_bind (wpAny_isInstance (T := "StopIteration") (b := true) ⟨o, eo, ec⟩ isSubtype_stop (wpAny_pure ?_))
    exact go g tk fun c o c0 _ c2 c3 e => up c o c0 c2 c3 e
end
section
variable {prog : Program} {w : World} {A : Around} {s : Shared} {R : Result → Shared → Prop} {z TI TO i1 i2 S : Addr} {fp1 fp2 : List Addr} {n1 n2 : Nat} {P1 P2 : Nat → Value → Prop} {St1 St2 : Nat → Heap → Prop}
theorem z_loop (L : ZL z TI TO i1 i2 S fp1 fp2) (D1 : Draws prog w A.in1.in1 i1 fp1 n1 P1 St1) (D2 : Draws prog w A.in1.in1 i2 fp2 n2 P2 St2) (fits : min n1 n2 ≤ sizeLine) (res : Value) {hb : Heap}
    (out : ∀ g tk acc c as, (∀ b o, b ≠ S → b ≠ z → b ≠ TO → b ≠ i1 → b ≠ i2 → hb.get? b = some o → g.get? b = some o) → g.get? S = some { cls := .type "list", dict := none, data := .seq acc c, slots := #[] } → as.length = min n1 n2 → ZG P1 P2 S g as → acc.toList = as.map Value.ref →
      R (.ok (.ret res)) { s with heap := g, toks := tk }) :
    ∀ (m k : Nat) (h : Heap) (tk c : Nat) (acc : Array Value) (as : List Addr), min n1 n2 - k = m → k ≤ min n1 n2 → ZS z TI TO i1 i2 S St1 St2 k h → (∀ b o, b ≠ S → b ≠ z → b ≠ TO → b ≠ i1 → b ≠ i2 → hb.get? b = some o → h.get? b = some o) →
      h.get? S = some { cls := .type "list", dict := none, data := .seq acc c, slots := #[] } → acc.toList = as.map Value.ref → as.length = k → ZG P1 P2 S h as →
      codeAny (model prog w) A (.builtin "list.extend.loop" ⟨[.ref S, .ref z, res], []⟩) R { s with heap := h, toks := tk } := by
  have nz := Nat.ne_of_gt L.z
  have nto := Nat.ne_of_gt L.to
  have n1' := Nat.ne_of_gt L.i1
  have n2' := Nat.ne_of_gt L.i2
  have big : ∀ a, S < a → a ≠ z ∧ a ≠ TO ∧ a ≠ i1 ∧ a ≠ i2 := fun a lt => ⟨Nat.ne_of_gt (Nat.lt_trans L.z lt), Nat.ne_of_gt (Nat.lt_trans L.to lt), Nat.ne_of_gt (Nat.lt_trans L.i1 lt), Nat.ne_of_gt (Nat.lt_trans L.i2 lt)⟩
  intro m
  induction m with
  | zero =>
    intro k h tk c acc as em le x old gS ea el G
    refine codeAny_builtin PySem.F.entry_extend_loop ?_
    rw [Around.under_plainId PySem.F.plain_extend_loop _]
    show wpAny _ A.in1 (pyNext (.ref z) >>= _) _ _ _
    refine wpAny_bind (z_over (s := { s with heap := h, toks := tk }) L D1 D2 x (by omega) (by omega) (by omega) fun g tk1 up => ?_)
    refine wpAny_pure (out g tk1 acc c as (fun b o b0 b1 b2 b3 b4 e => up b o b1 b2 b3 b4 (old b o b0 b1 b2 b3 b4 e)) (up S _ nz nto n1' n2' gS) (by omega) ⟨G.rise, G.over, fun j a ej => ?_⟩ ea)
    obtain ⟨x1, x2, p1, p2, t⟩ := G.pair j a ej
    obtain ⟨q1, q2, q3, q4⟩ := big a (G.over a (List.mem_of_getElem? ej))
    exact ⟨x1, x2, p1, p2, up a _ q1 q2 q3 q4 t⟩
  | succ m ih =>
    intro k h tk c acc as em le x old gS ea el G
    have ks : acc.size = k := by rw [← Array.length_toList, ea, List.length_map, el]
    refine codeAny_builtin PySem.F.entry_extend_loop ?_
    rw [Around.under_plainId PySem.F.plain_extend_loop _]
    show wpAny _ A.in1 (pyNext (.ref z) >>= _) _ _ _
    refine wpAny_bind (z_more (s := { s with heap := h, toks := tk }) L D1 D2 x (Heap.lt_size gS) (by omega) (by omega) fun x1 x2 g tk1 p1 p2 y t0 sz up => ?_)
    dsimp only at t0 sz up ⊢
    have gS1 := up S _ nz nto n1' n2' gS
    have up2 : ∀ b o, b ≠ S → g.get? b = some o → (g.update S (Obj.mapSeq (·.push (Value.ref h.objs.size)))).get? b = some o := fun b o hb e => (Heap.get?_update_other _ _ (Ne.symm hb)).trans e
    have lS : S < h.objs.size := Heap.lt_size gS
    have t1 := up2 _ _ (Nat.ne_of_gt lS) t0
    show wpAny _ A.in1 (updateSeq S (·.push (Value.ref h.objs.size)) >>= _) _ _ _
    refine wpAny_bind (wpAny_updateSeq gS1 rfl (wpAny_pure ⟨plainId_quiet PySem.F.plain_extend_loop _, ih (k + 1) _ tk1 _ (acc.push (Value.ref h.objs.size)) (as ++ [h.objs.size]) (by omega) (by omega) (y.keep L D1 D2 up2) (fun b o b0 b1 b2 b3 b4 e => up2 b o b0 (up b o b1 b2 b3 b4 (old b o b0 b1 b2 b3 b4 e)))
      (Heap.get?_update_self _ gS1 rfl) (by rw [Array.toList_push, ea, List.map_append]; rfl) (by rw [List.length_append, el]; rfl) ⟨?_, ?_, ?_⟩⟩) (by rw [ks]; omega) (by show (acc.push (Value.ref h.objs.size)).size ≤ sizeLine + 1; rw [Array.size_push, ks]; omega))
    · exact List.pairwise_append.mpr ⟨G.rise, List.pairwise_singleton _ _, fun a ha b hb => by rw [List.mem_singleton.mp hb]; exact G.lt ha⟩
    · intro a ha
      rcases List.mem_append.mp ha with ha | ha
      · exact G.over a ha
      · rw [List.mem_singleton.mp ha]; exact lS
    · intro j b ej
      rcases Nat.lt_trichotomy j as.length with q | q | q
      · rw [List.getElem?_append_left q] at ej
        obtain ⟨y1, y2, r1, r2, t⟩ := G.pair j b ej
        have lb := G.over b (List.mem_of_getElem? ej)
        obtain ⟨q1, q2, q3, q4⟩ := big b lb
        exact ⟨y1, y2, r1, r2, up2 b _ (Nat.ne_of_gt lb) (up b _ q1 q2 q3 q4 t)⟩
      · subst q
        have eb : h.objs.size = b := by simpa using ej
        subst eb
        exact ⟨x1, x2, by rw [el]; exact p1, by rw [el]; exact p2, t1⟩
      · have en : (as ++ [h.objs.size])[j]? = none := List.getElem?_eq_none (by rw [List.length_append, List.length_singleton]; omega)
        rw [en] at ej; cases ej
end
theorem zip_no_len : typeLookup (.type "zip") "__len__" = pure none := by rw [typeLookup_type, builtinLookup_eq_fast]; kernel_rfl
theorem zip_no_hint : typeLookup (.type "zip") "__length_hint__" = pure none := by rw [typeLookup_type, builtinLookup_eq_fast]; kernel_rfl
section
variable {prog : Program} {w : World} {A : Around} {E : Value → Shared → Prop} {s : Shared} {R : Result → Shared → Prop} {z TI TO i1 i2 S : Addr} {fp1 fp2 : List Addr} {n1 n2 : Nat} {P1 P2 : Nat → Value → Prop} {St1 St2 : Nat → Heap → Prop}
theorem z_ext (L : ZL z TI TO i1 i2 S fp1 fp2) (D1 : Draws prog w A.in1.in1 i1 fp1 n1 P1 St1) (D2 : Draws prog w A.in1.in1 i2 fp2 n2 P2 St2) (fits : min n1 n2 ≤ sizeLine) (res : Value) (c0 : Nat) (ez : IsZip s.heap z TI TO .none) (x : ZS z TI TO i1 i2 S St1 St2 0 s.heap)
    (gS : s.heap.get? S = some { cls := .type "list", data := .seq #[] c0 })
    (out : ∀ g tk acc c as, (∀ b o, b ≠ S → b ≠ z → b ≠ TO → b ≠ i1 → b ≠ i2 → s.heap.get? b = some o → g.get? b = some o) → g.get? S = some { cls := .type "list", dict := none, data := .seq acc c, slots := #[] } → as.length = min n1 n2 → ZG P1 P2 S g as → acc.toList = as.map Value.ref →
      R (.ok (.ret res)) { s with heap := g, toks := tk }) :
    wpAny (model prog w) A.in1 (Builtin.List.listExtendWith (.ref S) (.ref z) res)
      (fun fin t => match fin with | .done f => R (.ok f) t | .again c' => c'.quiet = true ∧ codeAny (model prog w) A c' R t) (fun e t => R (.error e) t) s := by
  have T0 : s.TypeIs (.ref z) "zip" := ⟨_, ez, rfl⟩
  unfold Builtin.List.listExtendWith
  refine wpAny_bind (wpAny_typeOf T0 ?_)
  have q1 : Builtin.List.listSameRef (.ref S) (.ref z) = false := by simp [Builtin.List.listSameRef, Nat.ne_of_gt L.z]
  have q2 : (Value.type "zip" == Value.type "list") = false := by decide
  have q3 : (Value.type "zip" == Value.type "tuple") = false := by decide
  simp only [q1, q2, q3, Bool.or_false, Bool.false_eq_true, if_false]
  refine wpAny_bind (wpAny_pyIter_zip ez (wpAny_bind (wpAny_holding ?_)))
  unfold Builtin.List.listLengthHint
  refine wpAny_bind (wpAny_specialOf T0 zip_no_len ?_)
  show wpAny _ A.in1 (specialOf (Value.ref z) (Str.ofString "__length_hint__") >>= _) _ _ _
  refine wpAny_bind (wpAny_specialOf T0 zip_no_hint (wpAny_pure ?_))
  show wpAny _ A.in1 (rule "list.extend.makes-room" >>= fun _ => Builtin.List.listTouch (.ref S) >>= fun _ => again (.builtin "list.extend.loop" ⟨[.ref S, .ref z, res], []⟩)) _ _ _
  refine wpAny_bind (wpAny_rule (wpAny_bind ?_))
  show wpAny _ A.in1 (updateSeq S (·.push .none) >>= fun _ => updateSeq S (·.pop)) _ _ _
  refine wpAny_bind (wpAny_updateSeq gS rfl ?_)
  have gS2 := Heap.get?_update_self (Obj.mapSeq (·.push Value.none)) gS rfl
  refine wpAny_updateSeq (hz := by seq_fits) gS2 rfl ?_
  have gS3 := Heap.get?_update_self (Obj.mapSeq (·.pop)) gS2 rfl
  have up : ∀ b o, b ≠ S → s.heap.get? b = some o → ((s.heap.update S (Obj.mapSeq (·.push Value.none))).update S (Obj.mapSeq (·.pop))).get? b = some o := fun b o hb e => (Heap.get?_update_other _ _ (Ne.symm hb)).trans ((Heap.get?_update_other _ _ (Ne.symm hb)).trans e)
  exact wpAny_pure ⟨plainId_quiet PySem.F.plain_extend_loop _, z_loop (s := s) L D1 D2 fits res out _ 0 _ s.toks _ _ [] rfl (Nat.zero_le _) (x.keep L D1 D2 up) (fun b o b0 _ _ _ _ e => up b o b0 e) gS3 rfl rfl ⟨List.Pairwise.nil, (fun _ ha => nomatch ha), (fun j a ej => by simp at ej)⟩⟩
theorem z_init (L : ZL z TI TO i1 i2 S fp1 fp2) (D1 : Draws prog w A.in1.in1 i1 fp1 n1 P1 St1) (D2 : Draws prog w A.in1.in1 i2 fp2 n2 P2 St2) (fits : min n1 n2 ≤ sizeLine) (ez : IsZip s.heap z TI TO .none) (x : ZS z TI TO i1 i2 S St1 St2 0 s.heap)
    (gS : s.heap.get? S = some { cls := .type "list", data := .seq #[] })
    (out : ∀ g tk acc c as, (∀ b o, b ≠ S → b ≠ z → b ≠ TO → b ≠ i1 → b ≠ i2 → s.heap.get? b = some o → g.get? b = some o) → g.get? S = some { cls := .type "list", dict := none, data := .seq acc c, slots := #[] } → as.length = min n1 n2 → ZG P1 P2 S g as → acc.toList = as.map Value.ref →
      R (.ok (.ret .none)) { s with heap := g, toks := tk }) :
    wpAny (model prog w) A.in1 (Builtin.«list.__init__» ⟨[.ref S, .ref z], []⟩)
      (fun fin t => match fin with | .done f => R (.ok f) t | .again c' => c'.quiet = true ∧ codeAny (model prog w) A c' R t) (fun e t => R (.error e) t) s := by
  show wpAny _ _ (do let old ← Builtin.List.listItems (.ref S); Builtin.List.listUpdate (.ref S) (fun _ => #[]); letGo old.toList.reverse; Builtin.List.listExtendWith (.ref S) (.ref z) .none) _ _ s
  refine wpAny_bind ?_
  unfold Builtin.List.listItems
  refine wpAny_bind (wpAny_seqItems gS rfl (wpAny_pure ?_))
  show wpAny _ _ (updateSeq S (fun _ => #[]) >>= fun _ => letGo (#[] : Array Value).toList.reverse >>= fun _ => Builtin.List.listExtendWith (.ref S) (.ref z) .none) _ _ s
  refine wpAny_bind (wpAny_updateSeq gS rfl ?_)
  have up : ∀ b o, b ≠ S → s.heap.get? b = some o → (s.heap.update S (Obj.mapSeq (fun _ => (#[] : Array Value)))).get? b = some o := fun b o hb e => (Heap.get?_update_other _ _ (Ne.symm hb)).trans e
  refine wpAny_bind (wpAny_letGo ?_)
  exact z_ext L D1 D2 fits .none _ (up _ _ (Nat.ne_of_lt L.z) ez) (x.keep L D1 D2 up) (Heap.get?_update_self (Obj.mapSeq (fun _ => (#[] : Array Value))) gS rfl) fun g tk acc c as old => out g tk acc c as fun b o b0 b1 b2 b3 b4 e => old b o b0 b1 b2 b3 b4 (up b o b0 e)
theorem z_call {Q : Value → Shared → Prop} (L : ZL z TI TO i1 i2 s.heap.objs.size fp1 fp2) (D1 : ∀ A : Around, A.handled = none → Draws prog w A i1 fp1 n1 P1 St1) (D2 : ∀ A : Around, A.handled = none → Draws prog w A i2 fp2 n2 P2 St2) (calm : A.handled = none)
    (fits : min n1 n2 ≤ sizeLine) (ez : IsZip s.heap z TI TO .none) (x : ZS z TI TO i1 i2 s.heap.objs.size St1 St2 0 s.heap)
    (out : ∀ g tk acc c as, (∀ b o, b ≠ z → b ≠ TO → b ≠ i1 → b ≠ i2 → s.heap.get? b = some o → g.get? b = some o) → g.get? s.heap.objs.size = some { cls := .type "list", dict := none, data := .seq acc c, slots := #[] } → as.length = min n1 n2 → ZG P1 P2 s.heap.objs.size g as → acc.toList = as.map Value.ref →
      Q (.ref s.heap.objs.size) { s with heap := g, toks := tk }) : wpAny (model prog w) A (call (.type "list") [.ref z]) Q E s := by
  refine callType_codes (Q₁ := fun v t => v = .ref s.heap.objs.size ∧ t = { s with heap := s.heap.push { cls := .type "list", data := .seq #[] } }) PySem.F.called_list (PySem.F.typeCall_list_1 _) PySem.F.entry_list_init (code_list_new _ ⟨rfl, rfl⟩) fun v t e => ?_
  obtain ⟨rfl, rfl⟩ := e
  have gS : (s.heap.push { cls := .type "list", data := .seq #[] }).get? s.heap.objs.size = some { cls := .type "list", data := .seq #[] } := Heap.get?_push_size _ rfl
  have up : ∀ b o, b ≠ s.heap.objs.size → s.heap.get? b = some o → (s.heap.push { cls := .type "list", data := .seq #[] }).get? b = some o := fun b o _ e => Heap.get?_push_of_some _ e
  refine ⟨⟨_, gS, rfl⟩, PySem.F.args_list_init_2 _ _, z_init (A := A.in1) L (D1 _ calm) (D2 _ calm) fits (up _ _ (Nat.ne_of_lt L.z) ez) (x.keep L (D1 A calm) (D2 A calm) up) gS fun g tk acc c as old eS el G ea => ?_⟩
  exact ⟨rfl, out g tk acc c as (fun b o b1 b2 b3 b4 e => old b o (Nat.ne_of_lt (Heap.lt_size e)) b1 b2 b3 b4 (Heap.get?_push_of_some _ e)) eS el G ea⟩
end
end DZ

set_option Elab.async false
set_option linter.all false
set_option maxRecDepth 100000
set_option maxHeartbeats 4000000
/-! # list(zip(x, y)), d.values(), sorted and tuple of dicts, views and tuples: in the hand layer -/
namespace DZ
open PySem PySem.Spec PyProof.Rows L2
/-- what is gone through: a list, a tuple, a view of a dict's values -/
def Src (K : PySem.W.Frag) (H : Hp) (v : V) (xs : List V) : Prop :=
  ∃ p, v = .ref p ∧ (SqL K H p xs ∨ SqT K H p xs ∨ ∃ d kvs, H p = some (viewO "dict_values" p d) ∧ H d = some (.dK kvs) ∧ xs = kvs.map (·.2))
/-- the same at the machine -/
structure Sc (prog : Program) (w : World) (h : Heap) (u : Value) (xs : List V) (its : Array Value) (o : Obj) (Hq : Heap → Prop) (fs : List Addr) (P : Nat → Value → Prop) (St : Addr → Nat → Heap → Prop) : Prop where
  rel : Vals xs its.toList
  small : xs.length ≤ sizeLine
  beg : Begins u o Hq
  now : Hq h
  low : ∀ b ∈ fs, b < h.objs.size
  draw : ∀ it, (∀ b ∈ fs, b ≠ it) → ∀ A : Around, A.handled = none → Draws prog w A it (it :: fs) xs.length P (St it)
  start : ∀ it g, g.get? it = some o → (∀ b o, h.get? b = some o → g.get? b = some o) → St it 0 g
  val : ∀ k v, P k v → its[k]? = some v
section
variable {X : Cx} {pins : List (Addr × Obj)} {s : Shared} {σ : L2.St} {H : Hp}
theorem dk_at {d : Addr} {kvs : List (Key × V)} (I : Inv X pins σ H s) (hd : H d = some (.dK kvs)) :
    (d == sysModules) = false ∧ kvs.length ≤ sizeLine ∧ ∃ (vs : List (Key × Value)) (ep : Nat) (es : Array DictEntry), KV kvs vs ∧ s.heap.DictOf (mixKind X.prog X.w) d vs ∧ s.heap.DictAt (mixKind X.prog X.w) d vs ep ∧ s.heap.DictRaw d es ep ∧ es.size = vs.length ∧ ∀ (k : Nat) (lt : k < es.size), ∃ q, vs[k]? = some q ∧ es[k].val = q.2 := by
  obtain ⟨z, lo, vs, kv, dd⟩ := I.hok d _ hd
  obtain ⟨ep, hat⟩ := dd.dictAt
  obtain ⟨o, es, ho, hc, hdat, hk, hp, hn⟩ := id hat
  have l : es.size = vs.length := by rw [← hp.length]; simp
  refine ⟨lo, z, vs, ep, es, kv, dd, hat, ⟨o, ho, hc, hdat⟩, l, fun k lt => ?_⟩
  have lt' : k < vs.length := by omega
  exact ⟨vs[k], List.getElem?_eq_getElem lt', (hp.get? (e := es[k]) (by simp [lt]) (List.getElem?_eq_getElem lt' : vs[k]? = some (vs[k].1, vs[k].2))).2⟩
theorem kv_vals {kvs : List (Key × V)} {vs : List (Key × Value)} (r : KV kvs vs) : Vals (kvs.map (·.2)) (vs.map (·.2)) := by
  induction r with
  | nil => exact .nil
  | cons h _ ih => exact .cons h.2 ih
theorem src_sc {v : V} {u : Value} {xs : List V} (I : Inv X pins σ H s) (x : Src X.K H v xs) (r : RelV v u) : ∃ its o Hq fs P St, Sc X.prog X.w s.heap u xs its o Hq fs P St := by
  obtain ⟨p, rfl, x⟩ := x
  cases r
  rcases x with x | x | ⟨d, kvs, hp, hd, rfl⟩
  · obtain ⟨its, rv, pl, z⟩ := I.list x
    have e : its.toArray.size = xs.length := by rw [List.size_toArray, ← rv.length]
    refine ⟨its.toArray, _, _, [p], _, _, ⟨rv, z, begins_list p its.toArray, pl.isList, fun b hb => ?_, fun it ne A calm => e ▸ Draws.list calm it p (ne p List.mem_cons_self) its.toArray, fun it g e1 k => ⟨⟨_, e1, rfl, rfl⟩, pl.isList.at fun o e => k p o e⟩, fun k v q => q⟩⟩
    obtain ⟨o, n, e, _⟩ := pl
    rw [List.mem_singleton.mp hb]; exact Heap.lt_size e
  · obtain ⟨its, rv, pl, z⟩ := I.tuple x
    have e : its.toArray.size = xs.length := by rw [List.size_toArray, ← rv.length]
    refine ⟨its.toArray, _, _, [p], _, _, ⟨rv, z, begins_tuple p its.toArray, pl, fun b hb => ?_, fun it ne A calm => e ▸ Draws.tuple calm it p (ne p List.mem_cons_self) its.toArray, fun it g e1 k => ⟨⟨_, e1, rfl, rfl⟩, (show s.heap.IsTuple p its.toArray from pl).at fun o e => k p o e⟩, fun k v q => q⟩⟩
    obtain ⟨o, e, _⟩ := pl
    rw [List.mem_singleton.mp hb]; exact Heap.lt_size e
  · obtain ⟨lo, z, vs, ep, es, kv, dd, hat, raw, l, ent⟩ := dk_at I hd
    have gp : s.heap.get? p = some (DSub.viewOb "dict_values" d) := (show ObjOk X.prog X.w H s.heap p (viewO "dict_values" p d) from I.hok p _ hp).1
    have e : es.size = (kvs.map (·.2)).length := by rw [l, List.length_map]; exact (Paired.length kv).symm
    have vw : s.heap.IsValuesView p d := ⟨_, gp, rfl, rfl⟩
    refine ⟨(vs.map (·.2)).toArray, _, _, [p, d], (fun k v => ∃ lt : k < es.size, v = es[k].val), (fun it k h => h.IsValIter it d k es.size ep ∧ h.DictRaw d es ep), ⟨by simpa using kv_vals kv, by rw [List.length_map]; exact z, beginV p d es ep, ⟨vw, raw⟩, fun b hb => ?_,
      fun it ne A calm => ?_, fun it g e1 k => ⟨⟨_, e1, rfl, rfl⟩, raw.at fun o e => k d o e⟩, fun k v q => ?_⟩⟩
    · rcases List.mem_cons.mp hb with rfl | hb
      · exact Heap.lt_size gp
      · rw [List.mem_singleton.mp hb]
        obtain ⟨o, eo, _⟩ := raw
        exact Heap.lt_size eo
    · have D := drawsV (prog := X.prog) (w := X.w) calm it d (ne d (by simp)) es ep
      rw [← e]
      refine ⟨D.live, fun i h h' st k => D.frame i h h' st fun b hb => k b ?_, D.item, D.done⟩
      rcases List.mem_cons.mp hb with rfl | hb
      · simp
      · simp [List.mem_singleton.mp hb]
    · obtain ⟨lt, rfl⟩ := q
      obtain ⟨q, e1, e2⟩ := ent k lt
      simp [e1, e2]
end
/-! ## pairs laid -/
def putQ : Hp → List (Addr × V × V) → Hp
  | H, [] => H
  | H, q :: r => putQ (upd H q.1 (.tup [q.2.1, q.2.2])) r
theorem putQ_else {b : Addr} : ∀ (qs : List (Addr × V × V)) (H : Hp), (∀ q ∈ qs, q.1 ≠ b) → putQ H qs b = H b
  | [], _, _ => rfl
  | q :: r, H, h => by
    show putQ (upd H q.1 _) r b = H b
    rw [putQ_else r _ fun q' m => h q' (List.mem_cons_of_mem _ m), upd_ne (Ne.symm (h q List.mem_cons_self))]
theorem putQ_it : ∀ (qs : List (Addr × V × V)) (H : Hp), (qs.map (·.1)).Nodup → ∀ q ∈ qs, putQ H qs q.1 = some (.tup [q.2.1, q.2.2])
  | [], _, _, _, m => nomatch m
  | q :: r, H, nd, q', m => by
    rw [List.map_cons, List.nodup_cons] at nd
    show putQ (upd H q.1 _) r q'.1 = _
    rcases List.mem_cons.mp m with rfl | m
    · rw [putQ_else r _ fun q'' m e => nd.1 (List.mem_map.mpr ⟨q'', m, e⟩), upd_same]
    · exact putQ_it r _ nd.2 q' m
theorem paired_of {α β : Type} {F : α → β → Prop} : ∀ {as : List α} {bs : List β}, as.length = bs.length → (∀ q ∈ as.zip bs, F q.1 q.2) → Paired F as bs
  | [], [], _, _ => .nil
  | [], _ :: _, e, _ => by simp at e
  | _ :: _, [], e, _ => by simp at e
  | a :: as, b :: bs, e, h => .cons (h (a, b) (by simp)) (paired_of (by simpa using e) fun q m => h q (by rw [List.zip_cons_cons]; exact List.mem_cons_of_mem _ m))
theorem zip_fst {α β : Type} : ∀ {as : List α} {bs : List β}, as.length = bs.length → (as.zip bs).map (·.1) = as
  | [], [], _ => rfl
  | [], _ :: _, e => by simp at e
  | _ :: _, [], e => by simp at e
  | a :: as, b :: bs, e => by rw [List.zip_cons_cons, List.map_cons, zip_fst (by simpa using e)]
theorem refs_vals : ∀ as : List Addr, Vals (as.map V.ref) (as.map Value.ref)
  | [] => .nil
  | _ :: r => .cons rfl (refs_vals r)
section
variable {X : Cx} {pins : List (Addr × Obj)} {s : Shared} {σ : L2.St} {H : Hp}
theorem pairs_laid {ps : List (V × V)} {p : Addr} {g : Heap} {tk c : Nat} {acc : Array Value} {as : List Addr} (I : Inv X pins σ H s) (z : ps.length ≤ sizeLine) (old : ∀ b o, s.heap.get? b = some o → g.get? b = some o) (np : s.heap.objs.size ≤ p)
    (gp : g.get? p = some { cls := .type "list", dict := none, data := .seq acc c, slots := #[] }) (el : as.length = ps.length) (rise : as.Pairwise (· < ·)) (over : ∀ a ∈ as, p < a) (ea : acc.toList = as.map Value.ref)
    (pr : ∀ (j : Nat) (a : Addr), as[j]? = some a → ∃ x1 x2 q, ps[j]? = some q ∧ RelV q.1 x1 ∧ RelV q.2 x2 ∧ IsTupOf2 g a x1 x2) :
    ∃ H' : Hp, (∀ b o, H b = some o → H' b = some o) ∧ H p = none ∧ (∀ t ∈ as, H t = none) ∧ p ∉ as ∧ H' p = some (.lst (as.map V.ref)) ∧ Paired (fun (t : Addr) (q : V × V) => H' t = some (.tup [q.1, q.2])) as ps ∧ Inv X pins σ H' { s with heap := g, toks := tk } := by
  have pn : p ∉ as := fun m => Nat.lt_irrefl _ (over p m)
  have nd : as.Nodup := rise.imp fun {a b} (q : a < b) => Nat.ne_of_lt q
  have fr : ∀ t ∈ as, H t = none := fun t m => I.hok.fresh (Nat.le_trans np (Nat.le_of_lt (over t m)))
  have frp : H p = none := I.hok.fresh np
  have e1 : ((as.zip ps).map (·.1)) = as := zip_fst el
  have nd1 : ((as.zip ps).map (·.1)).Nodup := by rw [e1]; exact nd
  have ne1 : ∀ b, b ∉ as → ∀ q ∈ as.zip ps, q.1 ≠ b := fun b hb q m e => hb (by rw [← e1, ← e]; exact List.mem_map.mpr ⟨q, m, rfl⟩)
  have off : ∀ b, b ∉ as → b ≠ p → putQ (upd H p (.lst (as.map V.ref))) (as.zip ps) b = H b := fun b h1 h2 => by rw [putQ_else _ _ (ne1 b h1), upd_ne h2]
  have low : ∀ b o, s.heap.get? b = some o → b ∉ as ∧ b ≠ p := fun b o e => ⟨fun m => absurd (Nat.lt_of_lt_of_le (Heap.lt_size e) np) (Nat.not_lt.mpr (Nat.le_of_lt (over b m))), Nat.ne_of_lt (Nat.lt_of_lt_of_le (Heap.lt_size e) np)⟩
  have kp : ∀ b u, H b = some u → putQ (upd H p (.lst (as.map V.ref))) (as.zip ps) b = some u := fun b u e => (off b (fun m => by rw [fr b m] at e; cases e) (fun q => by rw [q, frp] at e; cases e)).trans e
  have atp : putQ (upd H p (.lst (as.map V.ref))) (as.zip ps) p = some (.lst (as.map V.ref)) := by rw [putQ_else _ _ (ne1 p pn), upd_same]
  have P1 : Paired (fun (t : Addr) (q : V × V) => putQ (upd H p (.lst (as.map V.ref))) (as.zip ps) t = some (.tup [q.1, q.2])) as ps := paired_of el fun q m => putQ_it (as.zip ps) (upd H p (.lst (as.map V.ref))) nd1 q m
  refine ⟨putQ (upd H p (.lst (as.map V.ref))) (as.zip ps), kp, frp, fr, pn, atp, P1, ?_⟩
  refine I.call' (ch := []) rfl ⟨fun b o q _ _ _ => old b o q, fun b o q _ _ _ => ⟨o.slots, old b o q⟩, fun b o q n _ => ?_, fun b o q _ => ⟨o, old b o q⟩, fun b xs q => kp b _ q, fun b o u q => kp b _ q, fun b qs q => ⟨#[], by rw [kp b _ q]; simp⟩⟩ (fun b u q => ?_) I.bare fun b m => by simp at m
  · rw [off b (low b o q).1 (low b o q).2]; exact n
  · by_cases hb : b ∈ as
    · obtain ⟨j, pk, f1, f2, f3⟩ := LiI.paired_ix P1 hb
      rw [f3] at q
      cases q
      obtain ⟨x1, x2, q, g1, g2, g3, g4⟩ := pr j b f1
      rw [f2] at g1
      cases g1
      exact ⟨by show 2 ≤ sizeLine; decide, [x1, x2], .cons g2 (.cons g3 .nil), ⟨_, g4, rfl, _, rfl⟩⟩
    · by_cases hp : b = p
      · rw [hp] at q ⊢
        rw [atp] at q
        cases q
        refine ⟨by rw [List.length_map]; omega, acc.toList, c, by rw [ea]; exact refs_vals as, ?_⟩
        rw [Array.toArray_toList]
        exact gp
      · rw [off b hb hp] at q
        exact (I.hok b u q).stay (fun d v _ y => old d v y) (fun d y => kp d _ y) fun d xs y => kp d _ y
end
/-! ## list(zip(x, y)) -/
def rZL (K : PySem.W.Frag) : V → V → Hp → VK → Prop := fun v1 v2 H Q => ∃ xs ys, Src K H v1 xs ∧ Src K H v2 ys ∧
  ∀ (H' : Hp) (p : Addr) (ts : List Addr), (∀ b o, H b = some o → H' b = some o) → H p = none → (∀ t ∈ ts, H t = none) → p ∉ ts → H' p = some (.lst (ts.map V.ref)) → Paired (fun (t : Addr) (q : V × V) => H' t = some (.tup [q.1, q.2])) ts (xs.zip ys) → Q (.ref p) H'
def tZL (K : PySem.W.Frag) (ta tb : TE) : TE := fun σ H Q => ta σ H fun x H1 => tb σ H1 fun y H2 => rZL K x y H2 Q
section
variable {X : Cx} {a b : Expr} {ta tb : TE} {p p2 q pos : Pos}
theorem rel_at {xs : List V} {us : List Value} (r : Vals xs us) : ∀ {k : Nat} {u : Value}, us[k]? = some u → ∃ x, xs[k]? = some x ∧ RelV x u := by
  induction r with
  | nil => intro k u e; simp at e
  | cons h t ih =>
    intro k u e
    cases k with
    | zero => exact ⟨_, rfl, (Option.some.inj e) ▸ h⟩
    | succ k => exact ih (k := k) (by simpa using e)
theorem pe_listZip (hc : X.calm = true) (hg : Gl X "list") (hm : X.mg "list" = none) (hv : bootBuiltins "list" = some (.type "list")) (hg2 : Gl X "zip") (hm2 : X.mg "zip" = none) (hv2 : bootBuiltins "zip" = some (.type "zip")) (ha : PE X a ta) (hb : PE X b tb)
    (na : starEach [a, b] X.env = (false, eval a X.env) :: starEach [b] X.env := by rfl) (nb : starEach [b] X.env = (false, eval b X.env) :: starEach [] X.env := by rfl) : PE X (.Call (.Name "list" p) [.Call (.Name "zip" p2) [a, b] [] q] [] pos) (tZL X.K ta tb) := by
  refine ⟨fun pins s σ H Q I h => ?_⟩
  refine Call_ (ld_blt I hg hm hv ?_)
  refine PyProof.Rows.callWith_type1 (PyProof.Rows.args_cons ?_ rfl) rfl rfl
  refine Call_ (ld_blt I hg2 hm2 hv2 ?_)
  have nc : (backTo q (starEach [b] X.env)).any (·.1) = false := by rw [nb]; rfl
  refine PyProof.Rows.callWith_type1 (PyProof.Rows.args_cons (thn (ha.run pins s σ H _ I h) fun v1 s1 ⟨x, H1, I1, r1, h1⟩ => PyProof.Rows.args_cons (thn (hb.run pins s1 σ H1 _ I1 h1) fun v2 s2 ⟨y, H2, I2, r2, h2⟩ => PyProof.Rows.args_nil ?_) nb) na) na nc
  obtain ⟨xs, ys, sx, sy, out⟩ := h2
  have r1' : RelV x v1 := r1
  obtain ⟨its1, o1, q1, fs1, P1, St1, c1⟩ := src_sc I2 sx r1'
  obtain ⟨its2, o2, q2, fs2, P2, St2, c2⟩ := src_sc I2 sy r2
  refine zip_begins2 c1.beg c2.beg c1.now c2.now fun g ez ti to g1 g2 sz old => ?_
  refine PyProof.Rows.args_nil ?_
  have calm := I2.ok.hd hc
  have L : ZL (s2.heap.objs.size + 4) (s2.heap.objs.size + 2) (s2.heap.objs.size + 3) s2.heap.objs.size (s2.heap.objs.size + 1) g.objs.size (s2.heap.objs.size :: fs1) ((s2.heap.objs.size + 1) :: fs2) := by
    refine ⟨zip_sep2 c1.low c2.low, ?_, ?_, ?_, ?_, ?_, fun m => ?_, fun m => ?_⟩
    · show (s2.heap.objs.size + 4 : Nat) < g.objs.size; omega
    · show (s2.heap.objs.size + 2 : Nat) < g.objs.size; omega
    · show (s2.heap.objs.size + 3 : Nat) < g.objs.size; omega
    · show (s2.heap.objs.size : Nat) < g.objs.size; omega
    · show (s2.heap.objs.size + 1 : Nat) < g.objs.size; omega
    · rcases List.mem_cons.mp m with e | m
      · have e' : (g.objs.size : Nat) = s2.heap.objs.size := e
        omega
      · have := c1.low _ m
        have e' : (g.objs.size : Nat) < s2.heap.objs.size := this
        omega
    · rcases List.mem_cons.mp m with e | m
      · have e' : (g.objs.size : Nat) = s2.heap.objs.size + 1 := e
        omega
      · have := c2.low _ m
        have e' : (g.objs.size : Nat) < s2.heap.objs.size := this
        omega
  have z0 : (xs.zip ys).length = min xs.length ys.length := List.length_zip
  have z1 := c1.small
  refine z_call (s := { s2 with heap := g }) L (c1.draw _ fun b hb => Nat.ne_of_lt (c1.low b hb)) (c2.draw _ fun b hb => Nat.ne_of_lt (Nat.lt_succ_of_lt (c2.low b hb))) calm (by omega) ez ⟨.inl ez, ti, ⟨_, _, to⟩, c1.start _ _ g1 old, c2.start _ _ g2 old⟩ fun g' tk acc c as up gp el G ea => ?_
  have up' : ∀ b o, s2.heap.get? b = some o → g'.get? b = some o := fun b o e => up b o (Nat.ne_of_lt (Nat.lt_of_lt_of_le (Heap.lt_size e) (by show (s2.heap.objs.size : Nat) ≤ s2.heap.objs.size + 4; omega))) (Nat.ne_of_lt (Nat.lt_of_lt_of_le (Heap.lt_size e) (by show (s2.heap.objs.size : Nat) ≤ s2.heap.objs.size + 3; omega)))
    (Nat.ne_of_lt (Heap.lt_size e)) (Nat.ne_of_lt (Nat.lt_succ_of_lt (Heap.lt_size e))) (old b o e)
  obtain ⟨H', k1, k2, k3, k4, k5, k6, J⟩ := pairs_laid (ps := xs.zip ys) (tk := tk) (p := g.objs.size) I2 (by omega) up' (by omega) gp (by rw [z0]; exact el) G.rise G.over ea fun j a ej => by
    obtain ⟨x1, x2, p1, p2, t⟩ := G.pair j a ej
    obtain ⟨w1, e1, f1⟩ := rel_at c1.rel (k := j) (u := x1) (by rw [Array.getElem?_toList]; exact c1.val j x1 p1)
    obtain ⟨w2, e2, f2⟩ := rel_at c2.rel (k := j) (u := x2) (by rw [Array.getElem?_toList]; exact c2.val j x2 p2)
    exact ⟨x1, x2, (w1, w2), by rw [List.getElem?_zip_eq_some]; exact ⟨e1, e2⟩, f1, f2, t⟩
  exact ⟨.ref g.objs.size, H', J, rfl, out H' _ as k1 k2 k3 k4 k5 k6⟩
end
end DZ

set_option Elab.async false
set_option linter.all false
set_option maxRecDepth 100000
set_option maxHeartbeats 4000000
/-! # d.values(), sorted(..) and tuple(..) of what is gone through, len(set(..)) of a tuple of texts -/
namespace DZ
open PySem PySem.Spec PyProof.Rows L2
section
variable {X : Cx} {e : Expr} {te : TE} {apos cpos : Pos}
/-- e.values() -/
def tVals (te : TE) : TE := fun σ H Q => te σ H fun x H1 => ∃ d kvs, x = .ref d ∧ H1 d = some (.dK kvs) ∧ ∀ p, H1 p = none → Q (.ref p) (upd H1 p (viewO "dict_values" p d))
theorem pe_vals (he : PE X e te) (hbase : attributeBase e "values" X.env (eval e X.env) = eval e X.env := by rfl) (hline : (apos.endLine == cpos.line) = true := by rfl) : PE X (.Call (.Attribute e "values" apos) [] [] cpos) (tVals te) := by
  refine ⟨fun pins s σ H Q I h => ?_⟩
  refine wpAny_Call_method (T := "dict") (id := "dict.values") hbase rfl hline F.plainAttrs_dict F.slot_dict_values F.type_dict_values (thn (he.run pins s σ H _ I h) fun u t ⟨x, H1, I1, rx, d, kvs, ex, hd, out⟩ => ?_)
  subst ex
  obtain rfl : u = Value.ref d := rx
  obtain ⟨lo, z, vs, ep, es, kv, dd, _⟩ := dk_at I1 hd
  refine ⟨dd.typeIs, dd.mapOf.noDict, ?_⟩
  show wpAny _ _ (callWith cpos (.builtin "dict.values") [.ref d] [] []) _ X.xe t
  refine method_meetsIn F.slot_dict_values F.entry_dict_values rfl (PySem.evalArgs_none ⟨rfl, dd.typeIs, F.args_dict_values_1 _, _, meets_dict_values (mixKind X.prog X.w) d lo, ⟨vs, dd⟩, ?_⟩)
  exact ⟨.ref t.heap.objs.size, upd H1 t.heap.objs.size (viewO "dict_values" t.heap.objs.size d), I1.laid (t' := t.toks) (fun _ _ e => Heap.get?_push_of_some _ e) (Nat.le_refl _) (viewO_ok (Heap.get?_push_size _ rfl)), rfl, out _ (I1.hok.fresh (Nat.le_refl _))⟩
end
/-- what is gone through, the keys of a dict too -/
def Its (K : PySem.W.Frag) (H : Hp) (v : V) (xs : List V) : Prop := Src K H v xs ∨ ∃ d kvs, v = .ref d ∧ H d = some (.dK kvs) ∧ xs = kvs.map fun q => kV q.1
section
variable {X : Cx} {pins : List (Addr × Obj)} {s : Shared} {σ : L2.St} {H : Hp} {v : V} {u : Value} {xs : List V}
theorem vals_at : ∀ {xs : List V} {us : List Value}, us.length = xs.length → (∀ (j : Nat) (u : Value), us[j]? = some u → ∃ x, xs[j]? = some x ∧ RelV x u) → Vals xs us
  | [], [], _, _ => .nil
  | [], _ :: _, e, _ => by simp at e
  | _ :: _, [], e, _ => by simp at e
  | x :: xs, u :: us, e, h => by
    obtain ⟨y, e1, r⟩ := h 0 u rfl
    have e2 : x = y := Option.some.inj e1
    exact .cons (e2 ▸ r) (vals_at (by simpa using e) fun j u' e' => by simpa using h (j + 1) u' (by simpa using e'))
theorem col_of (I : Inv X pins σ H s) (x : Its X.K H v xs) (r : RelV v u) {A : Around} {E : Value → Shared → Prop} {R : List Value → Shared → Prop} (calm : A.handled = none)
    (go : ∀ g tk us, (∀ b o, s.heap.get? b = some o → g.get? b = some o) → Vals xs us → R us { s with heap := g, toks := tk }) : wpAny (model X.prog X.w) A (collect u) R E s := by
  rcases x with ⟨p, rfl, x | x | ⟨d, kvs, hp, hd, rfl⟩⟩ | ⟨d, kvs, rfl, hd, rfl⟩
  · cases r
    obtain ⟨its, rv, ⟨o, n, e, c, _, dd⟩, z⟩ := I.list x
    exact wpAny_collect_seq p (.inl rfl) e c dd (fun g k => go g s.toks _ k (by simpa using rv)) (by rw [List.size_toArray, ← rv.length]; exact z)
  · cases r
    obtain ⟨its, rv, ⟨o, e, c, n, dd⟩, z⟩ := I.tuple x
    exact wpAny_collect_seq p (.inr rfl) e c dd (fun g k => go g s.toks _ k (by simpa using rv)) (by rw [List.size_toArray, ← rv.length]; exact z)
  · cases r
    obtain ⟨lo, z, vs, ep, es, kv, dd, hat, raw, l, ent⟩ := dk_at I hd
    have gp : s.heap.get? p = some (DSub.viewOb "dict_values" d) := (show ObjOk X.prog X.w H s.heap p (viewO "dict_values" p d) from I.hok p _ hp).1
    have lk : kvs.length = vs.length := Paired.length kv
    refine PySem.W.kdu_collect (PySem.W.kdl_values (knd := mixKind X.prog X.w) (kvs := vs) (ep := ep)) calm ⟨⟨_, gp, rfl, rfl⟩, hat⟩ (by omega) fun g tk acc k hacc => go g tk _ k ?_
    refine vals_at (by rw [Array.length_toList, hacc.1, List.length_map]; omega) fun j w e => ?_
    obtain ⟨k, e1⟩ := hacc.2 j w (by rw [← Array.getElem?_toList]; exact e)
    obtain ⟨x, f1, f2⟩ := rel_at (kv_vals kv) (k := j) (u := w) (by rw [List.getElem?_map, e1]; rfl)
    exact ⟨x, f1, f2⟩
  · cases r
    obtain ⟨lo, z, vs, ep, es, kv, dd, hat, raw, l, ent⟩ := dk_at I hd
    have lk : kvs.length = vs.length := Paired.length kv
    refine PySem.W.kdu_collect (PySem.W.kdl_dict (knd := mixKind X.prog X.w) (kvs := vs) (ep := ep) lo) calm hat (by omega) fun g tk acc k hacc => go g tk _ k ?_
    refine vals_at (by rw [Array.length_toList, hacc.1, List.length_map]; omega) fun j w e => ?_
    obtain ⟨k, y, e1, e2⟩ := hacc.2 j w (by rw [← Array.getElem?_toList]; exact e)
    have lt : j < kvs.length := by rw [lk]; exact (List.getElem?_eq_some_iff.mp e1).1
    have ek : (kvs.map (·.1))[j]? = (vs.map (·.1))[j]? := by rw [KV.keys kv]
    rw [List.getElem?_map, List.getElem?_map, e1, List.getElem?_eq_getElem lt] at ek
    have ek' : kvs[j].1 = k := Option.some.inj ek
    exact ⟨kV k, by rw [List.getElem?_map, List.getElem?_eq_getElem lt, ← ek']; rfl, relV_key (show keyIs k w = true from e2)⟩
/-- sorted(x), x of texts -/
def rSortX (K : PySem.W.Frag) : List V → Hp → VK → Prop := fun vs H Q => ∃ v ks, vs = [v] ∧ Its K H v (ks.map V.str) ∧ ks.length < 64 ∧ ∀ (ys : List Str) (p : Addr), ys.Perm ks → sortedS ys = true → H p = none → Q (.ref p) (upd H p (.lst (ys.map V.str)))
theorem cr_sortX (hc : X.calm = true) : CallR X (.builtin "sorted") (rSortX X.K) := by
  intro pins s σ H vs us Q I r h
  obtain ⟨v, ks, rfl, x, lt, out⟩ := h
  obtain ⟨u, rfl, ru⟩ := vals1 r
  refine Calls.call_function_entry PyProof.Rows.kind_sorted PyProof.Rows.plain_sorted PyProof.Rows.entry_sorted (PyProof.Rows.args_sorted1 _) ?_
  unfold Builtin.«sorted»
  refine wpAny_bind (m := checkCount "sorted" 1 1 _) (wpAny_pure (wpAny_bind (col_of (A := X.A.in1) I x ru (I.ok.hd hc) fun g tk ws k rv => ?_)))
  have hS : StrsAre ws ks := strsAre_of rv
  have wl : ws.length = ks.length := by rw [← rv.length, List.length_map]
  have I1 : Inv X pins σ H { s with heap := g, toks := tk } := I.kept k
  refine wpAny_bind (wpAny_newList ?_ (by rw [wl, sizeLine_eq]; omega))
  have gL : (g.push (seqObj "list" ws.toArray 0)).get? g.objs.size = some (seqObj "list" ws.toArray 0) := Heap.get?_push_size _ rfl
  show wpAny _ _ _ _ _ { s with heap := g.push (seqObj "list" ws.toArray 0), toks := tk }
  refine wpAny_bind (wpAny_holding (wpAny_call_entry PyProof.Rows.slot_list_sort ⟨_, gL, rfl⟩ PyProof.Rows.entry_list_sort
    (list_sort_treeK strKind_oneLt (s := { s with heap := g.push (seqObj "list" ws.toArray 0), toks := tk }) gL hS.keysOf (fun a b rest e => keyKind_strs (by rw [← e]; exact hS)) (by rw [wl]; exact lt) fun st hp hs => ⟨_, rfl, ?_⟩) (PyProof.Rows.args_list_sort _)))
  obtain ⟨ys, y1, y2, y3⟩ := sorted_out_str hS hp hs
  obtain ⟨ep, at1⟩ := PyProof.Rows.sortedHeap_at (vs := ws) (out := (arrOf st).map (·.2)) gL
  have yl : (ys.map V.str).length ≤ sizeLine := by rw [List.length_map, y2.length_eq, sizeLine_eq]; omega
  refine wpAny_pure ⟨_, rfl, .ref g.objs.size, upd H g.objs.size (.lst (ys.map V.str)), I1.laid (t' := tk) (fun b o e => ?_) (Nat.le_refl _)
    (show ObjOk X.prog X.w _ _ _ (.lst (ys.map V.str)) from ⟨yl, ((arrOf st).map (·.2)).toList, ep, vals_of_strs y1, by rw [Array.toArray_toList]; exact at1⟩), rfl, out ys _ y2 y3 (I1.hok.fresh (Nat.le_refl _))⟩
  have lb : b < g.objs.size := Heap.lt_size e
  rw [PyProof.Rows.sortedHeap_old (Nat.ne_of_lt lb) (by rw [size_push']; exact Nat.lt_succ_of_lt lb)]
  exact Heap.get?_push_of_some _ e
end
end DZ

set_option Elab.async false
set_option linter.all false
set_option maxRecDepth 100000
set_option maxHeartbeats 4000000
/-! # tuple(..) of dicts and views; len(set(..)) of a tuple of texts -/
namespace DZ
open PySem PySem.Spec PyProof.Rows L2
section
variable {prog : Program} {w : World} {A : Around} {E : Value → Shared → Prop} {s : Shared} {a : Addr} {n : Nat} {C : List Value → Prop}
/-- tuple.__new__ of a dict -/
theorem new_dict {Q : Value → Shared → Prop} (T0 : s.TypeIs (.ref a) "dict")
    (col : ∀ {R : List Value → Shared → Prop}, (∀ (g : Heap) (tk : Nat) (us : List Value), (∀ b o, s.heap.get? b = some o → g.get? b = some o) → us.length = n → C us → R us { s with heap := g, toks := tk }) → wpAny (model prog w) A.in1 (collect (.ref a)) R E s) (fits : n ≤ sizeLine)
    (out : ∀ (g : Heap) (tk : Nat) (us : List Value), (∀ b o, s.heap.get? b = some o → g.get? b = some o) → C us → Q (.ref g.objs.size) { s with heap := g.push { cls := .type "tuple", data := .seq us.toArray }, toks := tk }) :
    codeAny (model prog w) A (.call (.builtin "tuple.__new__") ⟨[.type "tuple", .ref a], []⟩) (wants Q E) s := by
  refine codeAny_of_tree ?_
  show wpAny _ A.in1 (do checkBuiltinCall "tuple.__new__" ⟨[.type "tuple", .ref a], []⟩; again (.builtin "tuple.__new__" ⟨[.type "tuple", .ref a], []⟩)) _ _ s
  refine wpAny_bind (wpAny_of_eq (F.newCall_tuple_1 _) (wpAny_pure ⟨plainId_quiet F.plain_tuple_new _, codeAny_builtin F.entry_tuple_new ?_⟩))
  rw [Around.under_plainId F.plain_tuple_new _]
  have w1 := sub_tuple_self
  have w2 := init_tuple_lookup
  have w3 := madeHere_tuple
  wp_walk using wpAny_typeOf T0, col
  intro g tk us k el hc
  show wpAny _ _ (Builtin.Tuple.tupleExact us.toArray >>= fun v => ret v) _ _ _
  unfold Builtin.Tuple.tupleExact
  refine wpAny_bind (wpAny_newObj_type ?_ (by show us.toArray.size ≤ sizeLine; rw [List.size_toArray, el]; exact fits))
  exact wpAny_pure (out g tk us k hc)
/-- and of a view of its values -/
theorem new_view {Q : Value → Shared → Prop} (T0 : s.TypeIs (.ref a) "dict_values")
    (col : ∀ {R : List Value → Shared → Prop}, (∀ (g : Heap) (tk : Nat) (us : List Value), (∀ b o, s.heap.get? b = some o → g.get? b = some o) → us.length = n → C us → R us { s with heap := g, toks := tk }) → wpAny (model prog w) A.in1 (collect (.ref a)) R E s) (fits : n ≤ sizeLine)
    (out : ∀ (g : Heap) (tk : Nat) (us : List Value), (∀ b o, s.heap.get? b = some o → g.get? b = some o) → C us → Q (.ref g.objs.size) { s with heap := g.push { cls := .type "tuple", data := .seq us.toArray }, toks := tk }) :
    codeAny (model prog w) A (.call (.builtin "tuple.__new__") ⟨[.type "tuple", .ref a], []⟩) (wants Q E) s := by
  refine codeAny_of_tree ?_
  show wpAny _ A.in1 (do checkBuiltinCall "tuple.__new__" ⟨[.type "tuple", .ref a], []⟩; again (.builtin "tuple.__new__" ⟨[.type "tuple", .ref a], []⟩)) _ _ s
  refine wpAny_bind (wpAny_of_eq (F.newCall_tuple_1 _) (wpAny_pure ⟨plainId_quiet F.plain_tuple_new _, codeAny_builtin F.entry_tuple_new ?_⟩))
  rw [Around.under_plainId F.plain_tuple_new _]
  have w1 := sub_tuple_self
  have w2 := init_tuple_lookup
  have w3 := madeHere_tuple
  wp_walk using wpAny_typeOf T0, col
  intro g tk us k el hc
  show wpAny _ _ (Builtin.Tuple.tupleExact us.toArray >>= fun v => ret v) _ _ _
  unfold Builtin.Tuple.tupleExact
  refine wpAny_bind (wpAny_newObj_type ?_ (by show us.toArray.size ≤ sizeLine; rw [List.size_toArray, el]; exact fits))
  exact wpAny_pure (out g tk us k hc)
theorem call_new {Q : Value → Shared → Prop} (h : codeAny (model prog w) A.in1 (.call (.builtin "tuple.__new__") ⟨[.type "tuple", .ref a], []⟩) (wants (fun v t => t.TypeIs v "tuple" ∧ Q v t) E) s) : wpAny (model prog w) A (call (.type "tuple") [.ref a]) Q E s :=
  callType_codes (Q₁ := fun v t => t.TypeIs v "tuple" ∧ Q v t) F.called_tuple (F.typeCall_tuple_1 _) F.entry_object_init h fun v t q => ⟨q.1, F.args_object_init_2 v _, object_init_meets F.called_tuple.init.lookup F.called_tuple.made (by decide) prog w A.in1 _ t ⟨q.1, rfl, q.2⟩⟩
end
section
variable {X : Cx}
/-- tuple(d), tuple(d.values()) -/
def rTupX : List V → Hp → VK → Prop := fun vs H Q => ∃ a d kvs xs, vs = [.ref a] ∧ H d = some (.dK kvs) ∧ ((a = d ∧ xs = kvs.map fun q => kV q.1) ∨ (H a = some (viewO "dict_values" a d) ∧ xs = kvs.map (·.2))) ∧ ∀ p, H p = none → Q (.ref p) (upd H p (.tup xs))
theorem cr_tupX (hc : X.calm = true) : CallR X (.type "tuple") rTupX := by
  intro pins s σ H vs us Q I r h
  obtain ⟨a, d, kvs, xs, rfl, hd, x, out⟩ := h
  obtain ⟨u, rfl, ru⟩ := vals1 r
  cases ru
  obtain ⟨lo, z, ws, ep, es, kv, dd, _⟩ := dk_at I hd
  have calm := I.ok.hd hc
  have fin : ∀ (g : Heap) (tk : Nat) (us : List Value), (∀ b o, s.heap.get? b = some o → g.get? b = some o) → Vals xs us → xs.length ≤ sizeLine →
      (Shared.TypeIs { s with heap := g.push { cls := .type "tuple", data := .seq us.toArray }, toks := tk } (.ref g.objs.size) "tuple" ∧ EP X pins σ Q (.ref g.objs.size) { s with heap := g.push { cls := .type "tuple", data := .seq us.toArray }, toks := tk }) := fun g tk us k rv xl => by
    have I1 : Inv X pins σ H { s with heap := g, toks := tk } := I.kept k
    have gT : (g.push { cls := .type "tuple", data := .seq us.toArray }).get? g.objs.size = some { cls := .type "tuple", data := .seq us.toArray } := Heap.get?_push_size _ rfl
    exact ⟨⟨_, gT, rfl⟩, .ref g.objs.size, upd H g.objs.size (.tup xs), I1.laid (t' := tk) (fun _ _ e => Heap.get?_push_of_some _ e) (Nat.le_refl _) ⟨xl, us, rv, ⟨_, gT, rfl, _, rfl⟩⟩, rfl, out _ (I1.hok.fresh (Nat.le_refl _))⟩
  rcases x with ⟨rfl, rfl⟩ | ⟨ha, rfl⟩
  · have xl : (kvs.map fun q => kV q.1).length ≤ sizeLine := by rw [List.length_map]; exact z
    exact call_new (new_dict (n := (kvs.map fun q => kV q.1).length) (C := Vals (kvs.map fun q => kV q.1)) dd.typeIs (fun go => col_of I (.inr ⟨_, _, rfl, hd, rfl⟩) rfl calm fun g tk us k rv => go g tk us k rv.length.symm rv) xl fun g tk us k rv => fin g tk us k rv xl)
  · have xl : (kvs.map (·.2)).length ≤ sizeLine := by rw [List.length_map]; exact z
    have gp : s.heap.get? a = some (DSub.viewOb "dict_values" d) := (show ObjOk X.prog X.w H s.heap a (viewO "dict_values" a d) from I.hok a _ ha).1
    exact call_new (new_view (n := (kvs.map (·.2)).length) (C := Vals (kvs.map (·.2))) ⟨_, gp, rfl⟩ (fun go => col_of I (.inl ⟨_, rfl, .inr (.inr ⟨_, _, ha, hd, rfl⟩)⟩) rfl calm fun g tk us k rv => go g tk us k rv.length.symm rv) xl fun g tk us k rv => fin g tk us k rv xl)
end
/-! ## len(set(t)) -/
/-- how many of the first k differ -/
def diffN (xs : List Str) : Nat → Nat
  | 0 => 0
  | k + 1 => if (xs.take k).any (· == xs.getD k Str.empty) then diffN xs k else diffN xs k + 1
theorem diffN_le (xs : List Str) : ∀ k, diffN xs k ≤ k
  | 0 => Nat.le_refl _
  | k + 1 => by
    have := diffN_le xs k
    unfold diffN
    split <;> omega
theorem take_any (xs : List Str) (k : Nat) (lt : k < xs.length) (y : Str) : (xs.take (k + 1)).any (· == y) = ((xs.take k).any (· == y) || decide (y = xs.getD k Str.empty)) := by
  rw [List.take_succ, List.any_append, List.getElem?_eq_getElem lt]
  congr 1
  have e : xs.getD k Str.empty = xs[k] := by simp [lt]
  rw [e]
  show ([xs[k]].any (· == y)) = _
  by_cases q : y = xs[k]
  · subst q; simp
  · have : (xs[k] == y) = false := by simpa [beq_iff_eq] using fun q' : xs[k] = y => q q'.symm
    simp [this, q]
section
variable {prog : Program} {w : World} {A : Around} {R : Result → Shared → Prop} {J : Addr} {fp wr : List Addr} {Gr : Array GenState → Array GenState → Prop} {n : Nat} {P : Nat → Value → Prop} {Zt : Nat → Shared → Prop}
theorem set_loop (W : WalksS prog w A.in1 J fp wr Gr n P Zt) (S : Addr) (nS : S ∉ fp) (xs : List Str) (el : xs.length = n) (room : n + 1 < scanBound) (hv : ∀ i v, P i v → ∃ t, v = .str (xs.getD i Str.empty) t) :
    ∀ (m k : Nat) (s : Shared), n - k = m → k ≤ n → Zt k s → s.heap.SetOf (PySem.strKind prog w) S (fun y => (xs.take k).any (· == y)) (diffN xs k) →
      (∀ t, Moved (S :: wr) Gr s t → t.heap.SetOf (PySem.strKind prog w) S (fun y => (xs.take n).any (· == y)) (diffN xs n) → R (.ok (.ret .none)) t) →
      codeAny (model prog w) A (.builtin "set.update.loop" ⟨[.ref S, .ref J], []⟩) R s := by
  have nW : S ∉ wr := fun h => nS (W.sub _ h)
  have sb : ∀ b ∈ wr, b ∈ S :: wr := fun b hb => List.mem_cons_of_mem _ hb
  intro m
  induction m with
  | zero =>
    intro k s em le z gS out
    obtain rfl : k = n := by omega
    refine codeAny_builtin PyProof.Rows.F.entry_set_update_loop ?_
    rw [Around.under_plainId PyProof.Rows.F.plain_set_update_loop _]
    show wpAny _ A.in1 (pyNext (.ref J) >>= _) _ _ s
    refine wpAny_bind (W.done s _ _ z fun t mv => wpAny_pure (out t (mv.mono sb) ?_))
    obtain ⟨o, es, ep, tb, ho, r⟩ := gS
    exact ⟨o, es, ep, tb, mv.heap S _ nW ho, r⟩
  | succ m ih =>
    intro k s em le z gS out
    have lt : k < n := by omega
    refine codeAny_builtin PyProof.Rows.F.entry_set_update_loop ?_
    rw [Around.under_plainId PyProof.Rows.F.plain_set_update_loop _]
    show wpAny _ A.in1 (pyNext (.ref J) >>= _) _ _ s
    refine wpAny_bind (W.item k s _ _ lt z fun v t pv z1 mv => ?_)
    obtain ⟨tk, rfl⟩ := hv k v pv
    have gS1 : t.heap.SetOf (PySem.strKind prog w) S (fun y => (xs.take k).any (· == y)) (diffN xs k) := by
      obtain ⟨o, es, ep, tb, ho, r⟩ := gS
      exact ⟨o, es, ep, tb, mv.heap S _ nW ho, r⟩
    show wpAny _ A.in1 (holding [Value.str (xs.getD k Str.empty) tk] (setAdd S (.str (xs.getD k Str.empty) tk)) >>= _) _ _ t
    refine wpAny_bind (wpAny_holding ?_)
    unfold setAdd
    refine wpAny_holding (wpAny_bind ((PySem.strKind prog w).pyHash (k := xs.getD k Str.empty) (strKind_is _ _ _ _) ?_))
    have dl := diffN_le xs k
    refine wpAny_setAddHashed_of (knd := PySem.strKind prog w) (s := { t with toks := t.toks + 1 }) (strKind_is _ _ _ _) rfl gS1 (by omega) fun g hsb gS2 => ?_
    have gS3 : g.SetOf (PySem.strKind prog w) S (fun y => (xs.take (k + 1)).any (· == y)) (diffN xs (k + 1)) := SetOf_congr gS2 (fun y => (take_any xs k (by omega) y).symm) rfl
    refine wpAny_pure ⟨plainId_quiet PyProof.Rows.F.plain_set_update_loop _, ih (k + 1) _ (by omega) lt (W.frame _ t _ _ z1 (Nat.le_succ _) fun b hb o e => ?_) gS3 fun t2 mv2 gS4 => ?_⟩
    · rw [hsb.2 b fun q : b = S => nS (by rw [← q]; exact hb)]; exact e
    · refine out t2 (Moved.trans W.gtrans ((mv.mono sb).then_heap (Nat.le_succ _) fun b o hb e => ?_) mv2) gS4
      rw [hsb.2 b fun q : b = S => hb (by rw [q]; exact List.mem_cons_self)]; exact e
end
end DZ

set_option Elab.async false
set_option linter.all false
set_option maxRecDepth 100000
set_option maxHeartbeats 4000000
/-! # len(set(t)) of a tuple of texts, as many as there are -/
namespace DZ
open PySem PySem.Spec PyProof.Rows L2
abbrev nuSet (led : Bool) : Obj := { cls := .type "set", dict := none, data := .set #[] 0 (.fresh 0 0 led) }
section
variable {prog : Program} {w : World} {A : Around} {E : Value → Shared → Prop} {s : Shared}
theorem call_setT {l : Addr} {its : Array Value} {xs : List Str} {Q : Value → Shared → Prop} (calm : A.handled = none) (hl : s.heap.IsTuple l its) (hi : PyProof.Rows.StrsAre its.toList xs) (room : xs.length + 1 < scanBound)
    (out : ∀ (g : Heap) (tk : Nat), g.SetOf (PySem.strKind prog w) s.heap.objs.size (fun y => (xs.take its.size).any (· == y)) (diffN xs its.size) → (∀ b o, b < s.heap.objs.size → s.heap.get? b = some o → g.get? b = some o) → Q (.ref s.heap.objs.size) { s with heap := g, toks := tk }) :
    wpAny (model prog w) A (call (.type "set") [.ref l]) Q E s := by
  obtain ⟨c, tl, mro0⟩ := PySem.F.called_set.mro
  have made0 := PySem.F.called_set.made
  have sub0 := PySem.F.called_set.sub
  refine wpAny_call (codeAny_of_tree ?_)
  show wpAny _ _ (callAny (.type "set") _) _ _ _
  refine wpAny_pure ⟨Code.quiet_builtin _ (by decide +kernel), codeAny_builtin PySem.F.entry_type_call ?_⟩
  rw [Around.under_plain (weight_type_call_type "set" [.ref l] []) rfl]
  have f1 := PySem.F.called_set.notType
  have f2 := PySem.F.called_set.canCreate
  have f3 := PySem.F.typeCall_set_1 (.ref l)
  repeat (any_goals (first | assumption | wp_step))
  refine codeAny_mono (code_set_new_1 (.ref l) (E := E) (Q₁ := fun v t => ∃ led : Bool, v = .ref s.heap.objs.size ∧ t = { s with heap := s.heap.push (nuSet led) }) fun led => ⟨led, rfl, rfl⟩) fun r t hr => ?_
  cases r with
  | error e => exact hr
  | ok fl =>
    cases fl with
    | ret v =>
      obtain ⟨led, rfl, rfl⟩ := hr
      have gS : (s.heap.push (nuSet led)).get? s.heap.objs.size = some (nuSet led) := Heap.get?_push_size _ rfl
      have T0 : Shared.TypeIs { s with heap := s.heap.push (nuSet led) } (.ref s.heap.objs.size) "set" := ⟨_, gS, rfl⟩
      have li := PySem.F.called_set.init.lookup
      have bi := PySem.F.called_set.init.bind (.ref s.heap.objs.size)
      repeat (any_goals (first | assumption | wp_step))
      refine codeAny_mono (codeAny_call_builtin (R := wants (fun r t => r = .none ∧ ∃ g tk, t = { s with heap := g, toks := tk } ∧ g.SetOf (PySem.strKind prog w) s.heap.objs.size (fun y => (xs.take its.size).any (· == y)) (diffN xs its.size) ∧
          (∀ b o, b < s.heap.objs.size → s.heap.get? b = some o → g.get? b = some o)) E) PySem.F.called_set.init.plain PySem.F.entry_set_init (check_set_init_1 T0 ?_)) fun r2 t2 hr2 => ?_
      · obtain ⟨⟨ocls, odict, odata, oslots⟩, gl, cl, nl, dl⟩ := hl
        simp only at cl dl
        subst cl; subst dl
        have gl' : (s.heap.push (nuSet led)).get? l = some { cls := .type "tuple", dict := odict, data := .seq its nl, slots := oslots } := Heap.get?_push_of_some _ gl
        have sl1 := PySem.F.sub_tuple_set
        have sl2 := PySem.F.sub_tuple_frozenset
        have ned : (Value.type "tuple" == Value.type "dict") = false := by decide
        have tl1 : (s.heap.push (nuSet led)).IsTuple l its := ⟨_, gl', rfl, nl, rfl⟩
        unfold Builtin.«set.__init__» noKeywords Builtin.Frozenset.updateFrom
        generalize hPI : pyIter = PI
        wp_walk
        subst hPI
        refine wpAny_pyIter_tuple tl1 (wpAny_bind (wpAny_runValue ?_))
        have ll : l < s.heap.objs.size := Heap.lt_size gl
        have c3 : A.in1.in1.in1.handled = none := by simp [calm]
        have nJ : l ≠ (s.heap.push (nuSet led)).objs.size := by rw [Heap.size_push]; exact Nat.ne_of_lt (Nat.lt_succ_of_lt ll)
        have nS : s.heap.objs.size ∉ [(s.heap.push (nuSet led)).objs.size, l] := by
          rw [Heap.size_push]; simp only [List.mem_cons, List.mem_singleton, List.not_mem_nil, or_false, not_or]
          exact ⟨Nat.ne_of_lt (Nat.lt_succ_self _), Nat.ne_of_gt ll⟩
        have el : xs.length = its.size := by rw [← StrsAre.len_eq hi, Array.length_toList]
        have hv : ∀ (i : Nat) (v : Value), its[i]? = some v → ∃ t, v = .str (xs.getD i Str.empty) t := fun i v hv => SS.strs_at hi i v (by rw [Array.getElem?_toList]; exact hv)
        refine set_loop ((Walks.tuple c3 _ l nJ its).toS) s.heap.objs.size nS xs el (by rw [← el]; exact room) hv (its.size - 0) 0 _ (by omega) (Nat.zero_le _) ⟨⟨_, Heap.get?_push_size _ rfl, rfl, rfl⟩, (tl1.push _)⟩ ?first ?last
        case first =>
          have gg : ((s.heap.push (nuSet led)).push { cls := .type "tuple_iterator", data := .fields #[.ref l, .int 0 0] }).get? s.heap.objs.size = some (nuSet led) := Heap.get?_push_of_some _ gS
          exact PyProof.Rows.SetOf_congr ((PyProof.Rows.setObjOf_fresh (knd := PySem.strKind prog w) led).setOf gg (by unfold scanBound; omega)) (fun _ => rfl) rfl
        case last =>
          intro t mv gS4
          obtain ⟨g, g1, d1, tk1, os1⟩ := t
          obtain rfl : g1 = s.gens := mv.gens
          obtain rfl : d1 = s.drawn := mv.drawn
          obtain rfl : os1 = s.os := mv.os
          show wpAny _ _ _ _ _ _
          refine wpAny_pure ?_
          show wpAny _ _ (ret Value.none) _ _ _
          refine wpAny_pure ⟨rfl, g, tk1, rfl, gS4, fun b o hb e => ?_⟩
          have b1 : b ≠ s.heap.objs.size := Nat.ne_of_lt hb
          have b2 : b ≠ (s.heap.push (nuSet led)).objs.size := by rw [Heap.size_push]; exact Nat.ne_of_lt (Nat.lt_succ_of_lt hb)
          exact mv.heap b o (by simp only [List.mem_cons, List.mem_singleton, List.not_mem_nil, or_false, not_or]; exact ⟨b1, b2⟩) (Heap.get?_push_of_some _ (Heap.get?_push_of_some _ e))
      · cases r2 with
        | error e => exact hr2
        | ok fl2 =>
          cases fl2 with
          | ret r =>
            obtain ⟨rfl, g, tk, rfl, gS4, k⟩ := hr2
            repeat (any_goals (first | assumption | wp_step))
            exact out _ _ gS4 k
          | _ => exact hr2.elim
    | _ => exact hr.elim
end
section
variable {X : Cx} {a : Expr} {ta : TE} {p p2 q pos : Pos}
/-- len(set(x)), x a tuple of texts -/
def tLenT (K : PySem.W.Frag) (ta : TE) : TE := fun σ H Q => ta σ H fun x H1 => ∃ l, ∃ xs : List Str, x = .ref l ∧ SqT K H1 l (xs.map V.str) ∧ xs.length ≤ 1000 ∧ Q (.int (diffN xs xs.length : Nat)) H1
theorem pe_lenT (hc : X.calm = true) (hg : Gl X "len") (hm : X.mg "len" = none) (hv : bootBuiltins "len" = some (.builtin "len")) (hg2 : Gl X "set") (hm2 : X.mg "set" = none) (hv2 : bootBuiltins "set" = some (.type "set")) (ha : PE X a ta)
    (na : starEach [a] X.env = (false, eval a X.env) :: starEach [] X.env := by rfl) : PE X (.Call (.Name "len" p) [.Call (.Name "set" p2) [a] [] q] [] pos) (tLenT X.K ta) := by
  refine ⟨fun pins s σ H Q I h => ?_⟩
  refine Call_ (ld_blt I hg hm hv ?_)
  refine PyProof.Rows.callWith_builtin1 (PyProof.Rows.args_cons ?_ rfl) rfl rfl
  refine Call_ (ld_blt I hg2 hm2 hv2 ?_)
  refine PyProof.Rows.callWith_type1 (PyProof.Rows.args_cons (thn (ha.run pins s σ H _ I h) fun v t ⟨x, H1, I1, r1, h1⟩ => PyProof.Rows.args_nil ?_) na) na rfl
  obtain ⟨l, xs, rfl, sq, few, out⟩ := h1
  cases r1
  obtain ⟨its, r, pl, z⟩ := I1.tuple sq
  have el : its.toArray.size = xs.length := by rw [List.size_toArray, ← r.length, List.length_map]
  refine call_setT (I1.ok.hd hc) pl (by simpa using strsAre_of r) (by unfold scanBound; omega) fun g tk gS k => PyProof.Rows.args_nil ?_
  rw [el] at gS
  obtain ⟨o, es, ep, tb, ho, hex, hd, _, _, _, hf, hn⟩ := gS
  have I2 : Inv X pins σ H1 { t with heap := g, toks := tk } := I1.kept fun b o e => k b o (Heap.lt_size e) e
  have dl := diffN_le xs xs.length
  exact call_len_set ho hex hd hf (by rw [hn]; omega) ⟨.int (diffN xs xs.length : Nat), H1, I2.tok _, ⟨_, by rw [hn]⟩, out⟩
end
end DZ


set_option Elab.async false
set_option linter.all false
set_option maxRecDepth 100000
set_option maxHeartbeats 4000000
namespace G
open PySem PySem.Spec PyProof.Rows L2
def top (i : Nat) : Stmt := PySem.Challenge.pw_fingerbooks_k02_whole_renamings.main.body.getD i (.Pass ⟨0, 0, 0, 0⟩)
abbrev s_is_name : Stmt := top 5
abbrev N_is_name : List Str := ["value"]
theorem sc_is_name : FnScope N_is_name ["value"] (defScope s_is_name) := ⟨rfl, rfl, rfl, by decide +kernel, rfl, by decide +kernel, by decide +kernel⟩
abbrev s_is_renaming : Stmt := top 6
abbrev N_is_renaming : List Str := ["names", "value", "name"]
theorem sc_is_renaming : FnScope N_is_renaming ["names", "value"] (defScope s_is_renaming) := ⟨rfl, rfl, rfl, by decide +kernel, rfl, by decide +kernel, by decide +kernel⟩
abbrev s__are_different_names : Stmt := top 7
abbrev N__are_different_names : List Str := ["value", "name"]
theorem sc__are_different_names : FnScope N__are_different_names ["value"] (defScope s__are_different_names) := ⟨rfl, rfl, rfl, by decide +kernel, rfl, by decide +kernel, by decide +kernel⟩
abbrev s__law_dice : Stmt := top 9
abbrev N__law_dice : List Str := ["_law_script", "_law_spot", "_law_cell", "_law_left"]
theorem sc__law_dice : FnScope N__law_dice ["_law_script", "_law_spot"] (defScope s__law_dice) := ⟨rfl, rfl, rfl, by decide +kernel, rfl, by decide +kernel, by decide +kernel⟩
abbrev s__law_roll : Stmt := top 10
abbrev N__law_roll : List Str := ["_law_dice_here", "_law_total", "_law_found", "_law_one", "_law_two"]
theorem sc__law_roll : FnScope N__law_roll ["_law_dice_here", "_law_total"] (defScope s__law_roll) := ⟨rfl, rfl, rfl, by decide +kernel, rfl, by decide +kernel, by decide +kernel⟩
abbrev s__law_pick : Stmt := top 11
abbrev N__law_pick : List Str := ["_law_dice_here", "_law_items"]
theorem sc__law_pick : FnScope N__law_pick ["_law_dice_here", "_law_items"] (defScope s__law_pick) := ⟨rfl, rfl, rfl, by decide +kernel, rfl, by decide +kernel, by decide +kernel⟩
abbrev s__law_mixed : Stmt := top 12
abbrev N__law_mixed : List Str := ["_law_dice_here", "_law_items", "_law_left", "_law_found", "_law_turn"]
theorem sc__law_mixed : FnScope N__law_mixed ["_law_dice_here", "_law_items"] (defScope s__law_mixed) := ⟨rfl, rfl, rfl, by decide +kernel, rfl, by decide +kernel, by decide +kernel⟩
abbrev s__law_told : Stmt := top 13
abbrev N__law_told : List Str := ["_law_names", "_law_value"]
theorem sc__law_told : FnScope N__law_told ["_law_names", "_law_value"] (defScope s__law_told) := ⟨rfl, rfl, rfl, by decide +kernel, rfl, by decide +kernel, by decide +kernel⟩
abbrev s__law_near : Stmt := top 14
abbrev N__law_near : List Str := ["_law_dice_here", "_law_names", "_law_fine", "_law_name", "_law_some", "_law_other", "_law_more", "_law_same", "_law_bad", "_law_less", "_law_one"]
theorem sc__law_near : FnScope N__law_near ["_law_dice_here", "_law_names", "_law_fine"] (defScope s__law_near) := ⟨rfl, rfl, rfl, by decide +kernel, rfl, by decide +kernel, by decide +kernel⟩
abbrev s__law_right : Stmt := top 15
abbrev N__law_right : List Str := ["_law_dice_here", "_law_pool", "_law_names", "_law_fine", "_law_turn", "_law_value", "_law_due", "_law_back", "_law_later", "_law_both", "_law_odd", "_law_name"]
theorem sc__law_right : FnScope N__law_right ["_law_dice_here"] (defScope s__law_right) := ⟨rfl, rfl, rfl, by decide +kernel, rfl, by decide +kernel, by decide +kernel⟩
abbrev s_law : Stmt := top 16
abbrev N_law : List Str := ["_law_script", "_law_spot", "_law_told_here"]
theorem sc_law : FnScope N_law ["_law_script"] (defScope s_law) := ⟨rfl, rfl, rfl, by decide +kernel, rfl, by decide +kernel, by decide +kernel⟩
structure Txt (K : PySem.W.Frag) (mg : Str → Option Value) : Prop where
  isinstance : mg "isinstance" = none
  int : mg "int" = none
  str : mg "str" = none
  tuple : mg "tuple" = none
  dict : mg "dict" = none
  list : mg "list" = none
  set : mg "set" = none
  zip : mg "zip" = none
  len : mg "len" = none
  all : mg "all" = none
  max : mg "max" = none
  min : mg "min" = none
  abs : mg "abs" = none
  range : mg "range" = none
  sorted : mg "sorted" = none
  repr : mg "repr" = none
  gMAX_LETTERS : ∃ u, mg "MAX_LETTERS" = some u ∧ RelV (.int 8) u
/-! ## the dice -/
section
variable {P : Program} {w : World} {K : PySem.W.Frag} {mg : Str → Option Value} {base : Heap}
theorem c_dice (T : Txt K mg) (D : DefAt K mg "_law_dice" s__law_dice ["_law_script", "_law_spot"]) : CalG P w K mg base 1 "_law_dice" ["_law_script", "_law_spot"] (spDice K) := by
  refine calOk D sc__law_dice (fun xs H Q E h => ?_) (fun f cdv A out s H xs Q E hgd hr h => ?_)
  · obtain ⟨a, ns, i, rfl, _⟩ := h
    rfl
  · obtain ⟨a, ns, i, rfl, hS, hz, k⟩ := h
    have nd := sc__law_dice.nd
    refine ⟨_, (pss_cons (ps_set (i := 2) nd rfl (.inl rfl) (pe_ifExp (pt_cmpR op_lt (pv 1) (pe_callB call_len_seq (by rfl) T.len (by decide +kernel) (pa_cons (pv 0) pa_nil)) (nomark _)) (pe_callTy call_int1 (by rfl) T.int (by decide +kernel) (pa_cons (pe_ix ix_list (pv 0) (pv 1) (fun _ _ => rfl)) pa_nil)) (pe_op op_add (pe_op op_mul pe_int (pv 1)) pe_int)))
      (pss_cons (ps_set (i := 3) nd rfl (.inl rfl) (pe_op op_mod (pe_callB (call_max2 rfl) (by rfl) T.max (by decide +kernel) (pa_cons pe_int (pa_cons (pe_op op_sub (pe_callB call_abs (by rfl) T.abs (by decide +kernel) (pa_cons (pv 2) pa_nil)) (pe_op op_pow pe_int pe_int)) pa_nil))) (pe_op op_mulW (pe_op op_pow pe_int pe_int) (pe_op op_pow pe_int pe_int))))
      (pss_one (ps_ret (pe_lst (pa_cons (pv 3) (pa_cons (pe_op op_add (pe_op op_add (pe_op op_add (pe_op op_mul (pe_op op_mod (pe_callB call_abs (by rfl) T.abs (by decide +kernel) (pa_cons (pv 2) pa_nil)) pe_int) pe_int) (pe_op op_mul pe_int (pv 1))) (pe_op op_mul pe_int (pe_callTy call_int1 (by rfl) T.int (by decide +kernel) (pa_cons (pe_cmpR op_lt (pv 2) pe_int (nomark _)) pa_nil)))) pe_int) (pa_cons pe_int pa_nil)))))))), ?_⟩
    refine ⟨_, rfl, _, rfl, _, _, rfl, .inl hS, _, _, rfl, rfl, _, rfl, ite2 (fun hi => ?_) (fun hi => ?_)⟩
    · have hlt : i < ns.length := by
        have := of_decide_eq_true hi
        rw [List.length_map] at this
        omega
      have hat : (ns.map V.int)[i]? = some (.int ns[i]) := by
        rw [List.getElem?_map, List.getElem?_eq_getElem hlt]
        rfl
      refine ⟨_, rfl, _, rfl, _, _, _, _, rfl, rfl, hS, atI_nat hat, .inl ⟨_, rfl, ?_⟩⟩
      refine ⟨_, rfl, _, rfl, _, _, rfl, rfl, ⟨by decide, by decide, by decide⟩, _, _, rfl, rfl, _, _, rfl, _, _, rfl, rfl, ⟨by decide, by decide, by decide⟩, _, _, rfl, rfl, ⟨by decide, by decide, by decide⟩, _, _, rfl, rfl, mul60, _, _, rfl, rfl, pos60, ?_⟩
      refine ⟨_, rfl, _, rfl, _, rfl, _, _, rfl, rfl, (by show (0 : Int) < 1152921504606846961; decide), _, _, rfl, rfl, .inr ⟨by decide, by decide⟩, _, rfl, _, _, rfl, rfl, .inl ⟨by decide, by decide⟩, _, _, rfl, rfl, _, rfl, _, _, rfl, rfl, .inr ⟨_, rfl, _, _, rfl, rfl, .inl ⟨by decide, by decide⟩, _, _, rfl, rfl, _, _, rfl, rfl, (by show 3 ≤ sizeLine; decide), fun p1 n1 => ?_⟩⟩
      exact k _ _ _ _ n1
    · refine ⟨_, rfl, _, _, rfl, rfl, .inl ⟨by decide, by decide⟩, _, _, rfl, rfl, ?_⟩
      refine ⟨_, rfl, _, rfl, _, _, rfl, rfl, ⟨by decide, by decide, by decide⟩, _, _, rfl, rfl, _, _, rfl, _, _, rfl, rfl, ⟨by decide, by decide, by decide⟩, _, _, rfl, rfl, ⟨by decide, by decide, by decide⟩, _, _, rfl, rfl, mul60, _, _, rfl, rfl, pos60, ?_⟩
      refine ⟨_, rfl, _, rfl, _, rfl, _, _, rfl, rfl, (by show (0 : Int) < 1152921504606846961; decide), _, _, rfl, rfl, .inr ⟨by decide, by decide⟩, _, rfl, _, _, rfl, rfl, .inl ⟨by decide, by decide⟩, _, _, rfl, rfl, _, rfl, _, _, rfl, rfl, .inr ⟨_, rfl, _, _, rfl, rfl, .inl ⟨by decide, by decide⟩, _, _, rfl, rfl, _, _, rfl, rfl, (by show 3 ≤ sizeLine; decide), fun p1 n1 => ?_⟩⟩
      exact k _ _ _ _ n1
theorem c_roll (T : Txt K mg) (D : DefAt K mg "_law_roll" s__law_roll ["_law_dice_here", "_law_total"]) : CalG P w K mg base 1 "_law_roll" ["_law_dice_here", "_law_total"] spRoll := by
  refine calOk D sc__law_roll (fun xs H Q E h => ?_) (fun f cdv A out s H xs Q E hgd hr h => ?_)
  · obtain ⟨d, t, rfl, _⟩ := h
    rfl
  · obtain ⟨d, t, rfl, ⟨l, sd, c, hd⟩, ht, hlog, k⟩ := h
    have nd := sc__law_roll.nd
    have fr : ∀ (u : HO) (b : Addr), H b = none → upd H d u b = none := fun u b e => by
      rw [upd_ne (fun q => by rw [q, hd] at e; cases e)]
      exact e
    refine ⟨_, (pss_cons (ps_if (pt_cmpR op_gt (pe_ix ix_list (pv 0) pe_int (fun _ _ => rfl)) pe_int (nomark _)) (pss_cons (ps_set (i := 2) nd rfl (.inl rfl) (pe_op op_mod (pe_callTy call_int1 (by rfl) T.int (by decide +kernel) (pa_cons (pe_ix ix_list (pv 0) pe_int (fun _ _ => rfl)) pa_nil)) (pv 1)))
        (pss_cons (ps_asg (pe_op op_fdivW (pe_ix ix_list (pv 0) pe_int (fun _ _ => rfl)) (pv 1)) (pg_sub (pv 0) pe_int set_list))
        (pss_one (ps_ret (pv 2))))) pss_nil)
      (pss_cons (ps_asg (pe_op op_add (pe_ix ix_list (pv 0) pe_int (fun _ _ => rfl)) pe_int) (pg_sub (pv 0) pe_int set_list))
      (pss_cons (ps_set (i := 3) nd rfl (.inl rfl) (pe_op op_mod (pe_callTy call_int1 (by rfl) T.int (by decide +kernel) (pa_cons (pe_op op_add (pe_ix ix_list (pv 0) pe_int (fun _ _ => rfl)) (pe_op op_mul pe_int (pe_ix ix_list (pv 0) pe_int (fun _ _ => rfl)))) pa_nil)) pe_int))
      (pss_cons (ps_set (i := 4) nd rfl (.inl rfl) (pe_op op_add (pe_op op_mul (pe_op op_mod (pe_callTy call_int1 (by rfl) T.int (by decide +kernel) (pa_cons (pe_op op_add (pe_op op_mulW (pv 3) (pv 3)) (pe_op op_mul pe_int (pe_ix ix_list (pv 0) pe_int (fun _ _ => rfl)))) pa_nil)) pe_int) pe_int) (pv 3)))
      (pss_one (ps_ret (pe_op op_mod (pe_callTy call_int1 (by rfl) T.int (by decide +kernel) (pa_cons (pe_op op_fdivW (pv 4) pe_int) pa_nil)) (pv 1)))))))), ?_⟩
    refine ⟨_, rfl, _, _, _, _, rfl, rfl, SqL.of hd, atI_nat (j := 0) rfl, _, _, rfl, rfl, _, rfl, ite2 (fun hl => ?_) (fun hl => ?_)⟩
    · refine ⟨_, rfl, _, _, _, _, rfl, rfl, SqL.of hd, atI_nat (j := 0) rfl, .inl ⟨_, rfl, _, rfl, _, _, rfl, rfl, ht, ?_⟩⟩
      refine ⟨_, rfl, _, _, _, _, rfl, rfl, SqL.of hd, atI_nat (j := 0) rfl, _, rfl, _, _, rfl, rfl, ⟨ht, hlog⟩, _, rfl, _, _, _, 0, rfl, rfl, hd, rfl, ?_⟩
      refine ⟨_, rfl, ?_⟩
      exact k _ _ (Int.emod_nonneg _ (by omega)) (Int.emod_lt_of_pos _ ht) (Mv.refl ⟨l, sd, c, hd⟩).rolled (fr _)
    · refine ⟨_, rfl, _, _, _, _, rfl, rfl, SqL.of hd, atI_nat (j := 2) rfl, _, _, rfl, rfl, _, rfl, _, _, _, 2, rfl, rfl, hd, rfl, ?_⟩
      have h1 : upd H d (.lst [.int l, .int sd, .int (c + 1)]) d = some (.lst [.int l, .int sd, .int (c + 1)]) := upd_same
      refine ⟨_, rfl, _, _, _, _, rfl, rfl, SqL.of h1, atI_nat (j := 1) rfl, _, rfl, _, _, _, _, rfl, rfl, SqL.of h1, atI_nat (j := 2) rfl, _, _, rfl, rfl, .inl ⟨by decide, by decide⟩, _, _, rfl, rfl, .inl ⟨_, rfl, _, _, rfl, rfl, (by show (0 : Int) < 2305843009213693669; decide), ?_⟩⟩
      have hb := Int.emod_lt_of_pos (sd + 32452843 * (c + 1)) (show (0 : Int) < 2305843009213693669 by decide)
      have hn := Int.emod_nonneg (sd + 32452843 * (c + 1)) (show (2305843009213693669 : Int) ≠ 0 by decide)
      have hs : ((sd + 32452843 * (c + 1)) % 2305843009213693669).natAbs < 2 ^ 62 := by
        have e : (2 : Nat) ^ 62 = 4611686018427387904 := by decide
        omega
      refine ⟨_, rfl, _, rfl, _, _, rfl, rfl, wide_mul hs hs (by decide) (by decide) (by decide), _, rfl, _, _, _, _, rfl, rfl, SqL.of h1, atI_nat (j := 2) rfl, _, _, rfl, rfl, .inl ⟨by decide, by decide⟩, _, _, rfl, rfl, .inl ⟨_, rfl, _, _, rfl, rfl, (by show (0 : Int) < 1152921504606846869; decide), _, _, rfl, rfl, .inr ⟨by decide, by decide⟩, _, rfl, _, _, rfl, rfl, ?_⟩⟩
      refine ⟨_, rfl, _, _, rfl, rfl, ⟨by decide, by decide +kernel⟩, .inl ⟨_, rfl, _, rfl, _, _, rfl, rfl, ht, ?_⟩⟩
      exact k _ _ (Int.emod_nonneg _ (by omega)) (Int.emod_lt_of_pos _ ht) (Mv.refl ⟨l, sd, c, hd⟩).rolled (fr _)
theorem c_pick (T : Txt K mg) (C__law_roll : CalG P w K mg base 1 "_law_roll" ["_law_dice_here", "_law_total"] spRoll) (D : DefAt K mg "_law_pick" s__law_pick ["_law_dice_here", "_law_items"]) : CalG P w K mg base 2 "_law_pick" ["_law_dice_here", "_law_items"] (spPick K) := by
  refine calOk D sc__law_pick (fun xs H Q E h => ?_) (fun f cdv A out s H xs Q E hgd hr h => ?_)
  · obtain ⟨d, a, ys, rfl, _⟩ := h
    rfl
  · obtain ⟨d, a, ys, rfl, hd, hS, ne, h0, hz, k⟩ := h
    have nd := sc__law_pick.nd
    refine ⟨_, (pss_one (ps_ret (pe_ix ix_list (pv 1) (pe_k C__law_roll hgd hr (by decide) rfl (pa_cons (pv 0) (pa_cons (pe_callB call_len_seq (by rfl) T.len (by decide +kernel) (pa_cons (pv 1) pa_nil)) pa_nil))) (fun _ _ => rfl)))), ?_⟩
    have small : ((ys.length : Nat) : Int).natAbs.log2 < 9000 := by
      have e : ((ys.length : Nat) : Int).natAbs = ys.length := Int.natAbs_natCast _
      rw [e]
      exact Nat.lt_of_le_of_lt (Nat.log2_le_self _) (by omega)
    refine ⟨_, rfl, _, rfl, _, rfl, _, _, rfl, .inl hS, _, _, rfl, hd, (by omega), small, fun r1 H1 a1 b1 m1 f1 => ?_⟩
    obtain ⟨i, rfl⟩ : ∃ i : Nat, r1 = (i : Int) := ⟨r1.toNat, by omega⟩
    have hi : i < ys.length := by omega
    refine ⟨_, _, _, _, rfl, rfl, m1.sql ne hS, atI_nat (List.getElem?_eq_getElem hi), k _ _ _ (List.getElem?_eq_getElem hi) m1 f1⟩
end

/-! ## is_name -/
def nameB (z : Str) : Bool := decide (1 ≤ (z.length : Int)) && (decide ((z.length : Int) ≤ 8) && (Txt.isascii z && (Txt.isalpha z && Txt.islower z)))
def spIsName (K : PySem.W.Frag) : Sp := fun vs H Q _ =>
  (∃ z : Str, vs = [.str z] ∧ z.length ≤ sizeLine ∧ Q (.bl (nameB z)) H) ∨
  (∃ (x : V) (n : String), vs = [x] ∧ TyX K H x (.type n) ∧ kitB n "str" = some false ∧ Q (.bl false) H)
section
variable {gq : Bool} {P : Program} {w : World} {K : PySem.W.Frag} {mg : Str → Option Value} {base : Heap}
theorem c_is_name (T : Txt K mg) (D : DefAt K mg "is_name" s_is_name ["value"]) : CalQ gq P w K mg base 1 "is_name" ["value"] (spIsName K) := by
  refine calOkQ D sc_is_name (fun xs H Q E h => ?_) (fun f cdv A out s H xs Q E hgd hr h => ?_)
  · rcases h with ⟨z, rfl, _⟩ | ⟨x, n, rfl, _⟩ <;> rfl
  · have nd := sc_is_name.nd
    refine ⟨_, (pss_cons (ps_if (PW.pt (pw_or (pt_not (pt_val (pe_callB call_isi (by rfl) T.isinstance (by decide +kernel) (pa_cons (pv 0) (pa_cons (pe_ty "str" rfl T.str (by decide +kernel)) pa_nil))))) (pw_or1 (pt_not (pt_chain op_le op_le pe_int (pe_callB call_len_str (by rfl) T.len (by decide +kernel) (pa_cons (pv 0) pa_nil)) (pe_gv rfl T.gMAX_LETTERS)))))) (pss_one (ps_ret pe_bl)) pss_nil)
      (pss_one (ps_ret (pe_and (pe_bm0 PySem.F.plainAttrs_str PySem.F.slot_str_isascii PySem.F.type_str_isascii mt_isascii (pv 0)) (pe_and (pe_bm0 PySem.F.plainAttrs_str PySem.F.slot_str_isalpha PySem.F.type_str_isalpha mt_isalpha (pv 0)) (pe_one (pe_bm0 PySem.F.plainAttrs_str PySem.F.slot_str_islower PySem.F.type_str_islower mt_islower (pv 0)))))))), ?_⟩
    rcases h with ⟨z, rfl, hz, k⟩ | ⟨x, n, rfl, ty, hb, k⟩
    · refine ⟨_, rfl, _, _, _, _, true, rfl, .ty _, .base (.str z), kit_ty (by decide +kernel), true, rfl, iteF ?_⟩
      refine ⟨_, rfl, _, rfl, hz, _, _, rfl, rfl, _, rfl, ite2 (fun h1 => ?_) (fun h1 => ?_)⟩
      · refine ⟨_, _, rfl, rfl, _, rfl, ite2 (fun h2 => ?_) (fun h2 => ?_)⟩
        · have h2' : ¬ decide ((z.length : Int) ≤ 8) = true := fun q => by
            rw [q] at h2
            cases h2
          have e : nameB z = false := by
            unfold nameB
            rw [Bool.eq_false_iff.mpr h2', Bool.false_and, Bool.and_false]
          rw [e] at k
          exact k
        · have h2' : decide ((z.length : Int) ≤ 8) = true := by
            cases q : decide ((z.length : Int) ≤ 8) with
            | true => rfl
            | false => exact absurd (show (!decide ((z.length : Int) ≤ 8)) = true by rw [q]; rfl) h2
          have e : nameB z = (Txt.isascii z && (Txt.isalpha z && Txt.islower z)) := by
            unfold nameB
            rw [h1, h2', Bool.true_and, Bool.true_and]
          rw [e] at k
          refine ⟨_, rfl, rfl, _, rfl, rfl, True.intro, _, rfl, ite2 (fun h3 => ?_) (fun h3 => ?_)⟩
          · rw [h3] at k
            refine ⟨_, rfl, rfl, _, rfl, rfl, True.intro, _, rfl, ite2 (fun h4 => ?_) (fun h4 => ?_)⟩
            · rw [h4] at k
              exact ⟨_, rfl, rfl, _, rfl, rfl, True.intro, k⟩
            · rw [Bool.eq_false_iff.mpr h4] at k
              exact k
          · rw [Bool.eq_false_iff.mpr h3] at k
            exact k
      · have e : nameB z = false := by
          unfold nameB
          rw [Bool.eq_false_iff.mpr h1, Bool.false_and]
        rw [e] at k
        exact ⟨_, rfl, iteT k⟩
    · refine ⟨_, rfl, _, _, _, _, false, rfl, .ty _, ty, kit_ty hb, false, rfl, iteT ?_⟩
      exact k
end

/-! ## what a renaming is -/
/-- a value among the dicts of the law -/
def VO (H : Hp) (z : V) : Prop := (∃ s : Str, z = .str s ∧ s.length ≤ 100) ∨ z = .non ∨ (∃ i, z = .int i) ∨ ∃ a xs, z = .ref a ∧ H a = some (.tup xs)
def nameV : V → Bool
  | .str s => nameB s
  | _ => false
def diffB (zs : List V) : Bool := zs.all nameV && decide zs.Nodup
theorem VO.grow {H H' : Hp} {z : V} (s : Same H H') : VO H z → VO H' z
  | .inl h => .inl h
  | .inr (.inl h) => .inr (.inl h)
  | .inr (.inr (.inl h)) => .inr (.inr (.inl h))
  | .inr (.inr (.inr ⟨a, xs, e, h⟩)) => .inr (.inr (.inr ⟨a, xs, e, s _ _ h⟩))
def spDiff (K : PySem.W.Frag) : Sp := fun vs H Q _ => ∃ x, vs = [x] ∧
  ((∃ p zs, x = .ref p ∧ SqT K H p zs ∧ zs.length ≤ 900 ∧ (∀ z ∈ zs, VO H z) ∧ ∀ H', Same H H' → Q (.bl (diffB zs)) H') ∨
   (∃ n, TyX K H x (.type n) ∧ kitB n "tuple" = some false ∧ ∀ H', Same H H' → Q (.bl false) H'))
theorem names_of : ∀ {zs : List V}, zs.all nameV = true → ∃ xs : List Str, zs = xs.map V.str
  | [], _ => ⟨[], rfl⟩
  | z :: zs, h => by
    rw [List.all_cons, Bool.and_eq_true] at h
    obtain ⟨xs, rfl⟩ := names_of h.2
    cases z with
    | str s => exact ⟨s :: xs, rfl⟩
    | _ => exact Bool.noConfusion h.1
theorem diffN_nodup (xs : List Str) : ∀ k, k ≤ xs.length → (DZ.diffN xs k = k ↔ (xs.take k).Nodup)
  | 0, _ => by simp [DZ.diffN]
  | k + 1, h => by
    have ih := diffN_nodup xs k (by omega)
    have le := DZ.diffN_le xs k
    have lt : k < xs.length := by omega
    have e : xs.getD k Str.empty = xs[k] := by simp [lt]
    unfold DZ.diffN
    rw [List.take_succ, List.getElem?_eq_getElem lt, e]
    show _ ↔ (xs.take k ++ [xs[k]]).Nodup
    by_cases q : (xs.take k).any (· == xs[k]) = true
    · rw [if_pos q]
      refine ⟨fun z => by omega, fun z => ?_⟩
      obtain ⟨y, m, ey⟩ := List.any_eq_true.mp q
      have ey : y = xs[k] := by simpa using ey
      rw [List.nodup_append] at z
      exact absurd ey (z.2.2 y m xs[k] (by simp))
    · rw [if_neg q]
      constructor
      · intro z
        have n := ih.mp (by omega)
        rw [List.nodup_append]
        refine ⟨n, by simp, fun a ha b hb ab => q (List.any_eq_true.mpr ⟨a, ha, ?_⟩)⟩
        rw [List.mem_singleton.mp hb] at ab
        simp [ab]
      · intro z
        rw [List.nodup_append] at z
        have := ih.mpr z.1
        omega
theorem nodup_str {xs : List Str} : (xs.map V.str).Nodup ↔ xs.Nodup := by
  induction xs with
  | nil => simp
  | cons x xs ih => rw [List.map_cons, List.nodup_cons, List.nodup_cons, ih, List.mem_map]; constructor
                    · exact fun ⟨a, b⟩ => ⟨fun m => a ⟨x, m, rfl⟩, b⟩
                    · exact fun ⟨a, b⟩ => ⟨fun ⟨y, m, e⟩ => a (by injection e with e; rw [← e]; exact m), b⟩
theorem sqt_ty {K : PySem.W.Frag} {H : Hp} {p : Addr} {xs : List V} : SqT K H p xs → TyX K H (.ref p) (.type "tuple")
  | .inl (.inl h) => .base (.tup h)
  | .inl (.inr ⟨_, h⟩) => .fTuple h
  | .inr ⟨_, _, _, h, c, _⟩ => .kTuple h c
theorem Same.sqt {K : PySem.W.Frag} {H H' : Hp} {p : Addr} {xs : List V} (s : Same H H') : SqT K H p xs → SqT K H' p xs
  | .inl (.inl h) => .inl (.inl (s _ _ h))
  | .inl (.inr ⟨o, h⟩) => .inl (.inr ⟨o, s _ _ h⟩)
  | .inr h => .inr h
theorem all_len {α : Type} {f : α → Bool} {xs : List α} : (xs.map f).all id = xs.all f := by rw [List.all_map]; rfl
section
variable {gq : Bool} {P : Program} {w : World} {K : PySem.W.Frag} {mg : Str → Option Value} {base : Heap}
theorem c_diff (T : Txt K mg) (C_is_name : CalQ gq P w K mg base 1 "is_name" ["value"] (spIsName K)) (D : DefAt K mg "_are_different_names" s__are_different_names ["value"]) : CalQ gq P w K mg base 2 "_are_different_names" ["value"] (spDiff K) := by
  refine calOkQ D sc__are_different_names (fun xs H Q E h => ?_) (fun f cdv A out s H xs Q E hgd hr h => ?_)
  · obtain ⟨x, rfl, _⟩ := h
    rfl
  · obtain ⟨x, rfl, h⟩ := h
    have nd := sc__are_different_names.nd
    refine ⟨_, (pss_cons (ps_if (PW.pt (pw_or (pt_not (pt_val (pe_callB call_isi (by rfl) T.isinstance (by decide +kernel) (pa_cons (pv 0) (pa_cons (pe_ty "tuple" rfl T.tuple (by decide +kernel)) pa_nil))))) (pw_or1 (pt_not (pt_val (pe_callB (cr_all rfl) (by rfl) T.all (by decide +kernel) (pa_cons (pe_lc (own := [("name", 1)]) (g := gName 1) (by rfl) nd (pi_tup (pv 0)) (blkOk_by (own := [("name", 1)]) (N := N__are_different_names) (sc := defScope s__are_different_names) (by decide +kernel)) (fun _ _ _ _ _ => pg_name (i := 1) nd rfl (.inl rfl)) (fun _ _ _ _ _ => pts_nil) (fun _ _ _ _ _ => pe_kq C_is_name hgd hr (by decide) rfl (pa_cons (pv 1) pa_nil))) pa_nil))))))) (pss_one (ps_ret pe_bl)) pss_nil)
      (pss_one (ps_ret (pe_cmpR op_eq (DZ.pe_lenT rfl (by rfl) T.len (by decide +kernel) (by rfl) T.set (by decide +kernel) (pv 0)) (pe_callB call_len_seq (by rfl) T.len (by decide +kernel) (pa_cons (pv 0) pa_nil)) (nomark _))))), ?_⟩
    rcases h with ⟨p, zs, rfl, hp, hl, vo, k⟩ | ⟨n, ty, nt, k⟩
    · refine ⟨_, rfl, _, _, _, _, true, rfl, .ty _, sqt_ty hp, kit_ty (by show kitB "tuple" _ = _; decide +kernel), true, rfl, iteF ?_⟩
      refine ⟨_, rfl, p, rfl, ⟨_, hp⟩, fun Dl nD => ?_⟩
      refine lc_tup (K := K) (a := p) (xs := zs) (fun i H' => Same H H' ∧ H' Dl = some (.lst (((zs.take i).map nameV).map V.bl))) ?_ ?_ ?_ ?_
      · exact ⟨same_new nD, upd_same⟩
      · rintro i H' _ ⟨s1, _⟩
        exact Same.sqt s1 hp
      · rintro i x H' hi ⟨s1, hD⟩
        refine ⟨rfl, ?_⟩
        have fin : ∀ Q' : VK, Q' = (fun y H4 => ∃ acc, H4 Dl = some (.lst acc) ∧ acc.length < sizeLine ∧ (Same H (upd H4 Dl (.lst (acc ++ [y]))) ∧ (upd H4 Dl (.lst (acc ++ [y]))) Dl = some (.lst (((zs.take (i + 1)).map nameV).map V.bl)))) → Q' (.bl (nameV x)) H' := by
          rintro _ rfl
          refine ⟨_, hD, ?_, Same.put s1 nD, ?_⟩
          · rw [List.length_map, List.length_map, List.length_take, sizeLine_eq]; omega
          · rw [upd_same, List.take_add_one, hi, List.map_append, List.map_append]
            rfl
        refine ⟨_, rfl, ?_⟩
        rcases (vo x (List.mem_of_getElem? hi)).grow s1 with ⟨z, rfl, lz⟩ | rfl | ⟨j, rfl⟩ | ⟨a, xs, rfl, ha⟩
        · exact .inl ⟨z, rfl, (by rw [sizeLine_eq]; omega), fin _ rfl⟩
        · exact .inr ⟨_, _, rfl, .base .non, (by decide +kernel), fin _ rfl⟩
        · exact .inr ⟨_, _, rfl, .base (.int j), (by decide +kernel), fin _ rfl⟩
        · exact .inr ⟨_, _, rfl, .base (.tup ha), (by decide +kernel), fin _ rfl⟩
      · rintro H' ⟨s1, hD⟩
        rw [List.take_length] at hD
        refine ⟨Dl, _, rfl, SqL.of hD, ?_⟩
        rw [all_len]
        have kk := k H' s1
        unfold diffB at kk
        refine ⟨_, rfl, ite2 (fun q => ?_) (fun q => ?_)⟩
        · have q : zs.all nameV = false := by simpa using q
          rw [q, Bool.false_and] at kk
          exact kk
        · have q : zs.all nameV = true := by simpa using q
          rw [q, Bool.true_and] at kk
          obtain ⟨xs, rfl⟩ := names_of q
          refine ⟨_, rfl, p, xs, rfl, Same.sqt s1 hp, (by rw [List.length_map] at hl; omega), _, rfl, p, _, rfl, .inr (Same.sqt s1 hp), ?_⟩
          refine ⟨rfl, ?_⟩
          have e : decide (((DZ.diffN xs xs.length : Nat) : Int) = ((xs.map V.str).length : Nat)) = decide (xs.map V.str).Nodup := by
            have h1 := diffN_nodup xs xs.length (Nat.le_refl _)
            rw [List.take_length] at h1
            rw [List.length_map]
            by_cases q1 : xs.Nodup
            · rw [decide_eq_true (nodup_str.mpr q1), decide_eq_true (by have := h1.mpr q1; omega)]
            · rw [decide_eq_false (fun z => q1 (nodup_str.mp z)), decide_eq_false (fun z => q1 (h1.mp (by omega)))]
          rw [← e] at kk
          simpa using kk
    · exact ⟨_, rfl, _, _, _, _, false, rfl, .ty _, ty, kit_ty nt, false, rfl, iteT (k H (Same.refl _))⟩
end
/-! ## is_renaming -/
def keyS (n : Str) : Key := .inr n
/-- what is_renaming answers for a dict -/
def renB (ns : List Str) (kvs : List (Key × V)) : Bool :=
  decide (kvs.length = ns.length) && (ns.all (fun n => (valV kvs (keyS n)).isSome) && diffB (ns.map fun n => (valV kvs (keyS n)).getD .non))
def spRen (K : PySem.W.Frag) (CI : Addr) : Sp := fun vs H Q E => ∃ x v, vs = [x, v] ∧
  ((∃ p ns, x = .ref p ∧ SqT K H p (ns.map V.str) ∧ ns.length ≤ 100 ∧ (∀ n ∈ ns, n.length ≤ 100) ∧ diffB (ns.map V.str) = true ∧
      ((∃ a kvs, v = .ref a ∧ H a = some (.dK kvs) ∧ (∀ q ∈ kvs, VO H q.2) ∧ ∀ H', Same H H' → Q (.bl (renB ns kvs)) H') ∨
       (∃ n, (∀ H', Same H H' → TyX K H' v (.type n)) ∧ kitB n "dict" = some false ∧ ∀ H', Same H H' → Q (.bl false) H'))) ∨
   (((∃ p zs, x = .ref p ∧ SqT K H p zs ∧ zs.length ≤ 900 ∧ (∀ z ∈ zs, VO H z) ∧ diffB zs = false) ∨ ∃ n, TyX K H x (.type n) ∧ kitB n "tuple" = some false) ∧ ∀ H', Same H H' → E (.ref CI) none H'))
theorem valV_mem {kvs : List (Key × V)} {k : Key} {v : V} (h : valV kvs k = some v) : ∃ q ∈ kvs, q.2 = v := by
  unfold valV at h
  cases e : kvs.find? (fun kv => decide (kv.1 = k)) with
  | none => rw [e] at h; cases h
  | some q =>
    rw [e] at h
    exact ⟨q, List.mem_of_find?_eq_some e, Option.some.inj h⟩
section
variable {gq : Bool} {P : Program} {w : World} {K : PySem.W.Frag} {mg : Str → Option Value} {base : Heap} {CI : Addr}
theorem x_ren (T : Txt K mg) (X_InvalidOperation : ErrAt K mg "InvalidOperation" CI veL "ValueError.__new__") (C__are_different_names : CalQ gq P w K mg base 2 "_are_different_names" ["value"] (spDiff K)) (D : DefAt K mg "is_renaming" s_is_renaming ["names", "value"]) :
    CalXQ gq P w K mg base 4 "is_renaming" ["names", "value"] (spRen K CI) := by
  refine calOkXQ D sc_is_renaming (fun xs H Q E h => ?_) (fun f cdv A out s H xs Q E hgd hr h => ?_)
  · obtain ⟨x, v, rfl, _⟩ := h
    rfl
  · obtain ⟨x, v, rfl, h⟩ := h
    have nd := sc_is_renaming.nd
    refine ⟨_, (pss_cons (ps_if (pt_not (pt_val (pe_kq C__are_different_names hgd hr (by decide) rfl (pa_cons (pv 0) pa_nil)))) (pss_one (ps_raise rfl (takes_of rfl rfl rfl rfl) (pmk_own PySem.F.excBase_ValueError X_InvalidOperation.exc X_InvalidOperation.at_ X_InvalidOperation.keep (raises_own X_InvalidOperation.base X_InvalidOperation.ty) rfl))) pss_nil)
      (PSs.nox (pss_cons (ps_if (PW.pt (pw_or (pt_not (pt_val (pe_callB call_isi (by rfl) T.isinstance (by decide +kernel) (pa_cons (pv 1) (pa_cons (pe_ty "dict" rfl T.dict (by decide +kernel)) pa_nil))))) (pw_or1 (pt_cmpR op_ne (pe_callB call_lenD (by rfl) T.len (by decide +kernel) (pa_cons (pv 1) pa_nil)) (pe_callB call_len_seq (by rfl) T.len (by decide +kernel) (pa_cons (pv 0) pa_nil)) (nomark _))))) (pss_one (ps_ret pe_bl)) pss_nil)
      (pss_cons (ps_if (pt_not (pt_val (pe_callB (cr_all rfl) (by rfl) T.all (by decide +kernel) (pa_cons (pe_lc (own := [("name", 2)]) (g := gName 2) (by rfl) nd (pi_tup (pv 0)) (blkOk_by (own := [("name", 2)]) (N := N_is_renaming) (sc := defScope s_is_renaming) (by decide +kernel)) (fun _ _ _ _ _ => pg_name (i := 2) nd rfl (.inl rfl)) (fun _ _ _ _ _ => pts_nil) (fun _ _ _ _ _ => pe_cmp (pc_din (hu_of hr) (pv 2) (pv 1)))) pa_nil)))) (pss_one (ps_ret pe_bl)) pss_nil)
      (pss_one (ps_ret (pe_kq C__are_different_names hgd hr (by decide) rfl (pa_cons (pe_callTy call_tuple_of (by rfl) T.tuple (by decide +kernel) (pa_cons (pe_lc (own := [("name", 2)]) (g := gName 2) (by rfl) nd (pi_tup (pv 0)) (blkOk_by (own := [("name", 2)]) (N := N_is_renaming) (sc := defScope s_is_renaming) (by decide +kernel)) (fun _ _ _ _ _ => pg_name (i := 2) nd rfl (.inl rfl)) (fun _ _ _ _ _ => pts_nil) (fun _ _ _ _ _ => pe_dget (hu_of hr) (pv 1) (pv 2) (fun _ _ => rfl))) pa_nil)) pa_nil)))))))), ?_⟩
    rcases h with ⟨p, ns, rfl, hp, hl, hz, hB, h⟩ | ⟨bad, k⟩
    · have vo : ∀ {H' : Hp}, ∀ z ∈ ns.map V.str, VO H' z := fun z hz' => by
        obtain ⟨n, m, rfl⟩ := List.mem_map.mp hz'
        exact .inl ⟨n, rfl, hz n m⟩
      have hl9 : (ns.map V.str).length ≤ 900 := by rw [List.length_map]; omega
      refine a_if (fun b H' => b = false ∧ Same H H') (fun Q' kQ => ?_) (fun H' h => nomatch h.1) ?_
      · exact ⟨_, rfl, _, rfl, .inl ⟨p, _, rfl, hp, hl9, vo, fun H1 s1 => ⟨true, congrArg V.bl hB, kQ _ _ ⟨rfl, s1⟩⟩⟩⟩
      rintro H1 ⟨_, s1⟩
      refine go_nx ?_
      rcases h with ⟨a, kvs, rfl, ha, hv, k⟩ | ⟨n, ty, nt, k⟩
      · have ha1 := s1 _ _ ha
        have hp1 := Same.sqt s1 hp
        have kk : ∀ {b : Bool} {H' : Hp}, renB ns kvs = b → Same H1 H' → Q (.bl b) H' := fun e s => by
          have := k _ (s1.trans s)
          rwa [e] at this
        unfold renB at kk
        refine ⟨_, rfl, _, _, _, _, true, rfl, .ty _, .base (.dK ha1), kit_ty (by show kitB "dict" _ = _; decide +kernel), true, rfl, iteF ?_⟩
        refine ⟨_, rfl, a, kvs, rfl, ha1, _, rfl, p, _, rfl, .inr hp1, rfl, _, rfl, ite2 (fun q => ?_) (fun q => ?_)⟩
        · have q : ¬ kvs.length = ns.length := by
            have : ¬ ((kvs.length : Nat) : Int) = ((ns.map V.str).length : Nat) := by simpa using q
            rw [List.length_map] at this
            omega
          exact kk (by rw [decide_eq_false q, Bool.false_and]) (Same.refl _)
        have q : kvs.length = ns.length := by
          have : ((kvs.length : Nat) : Int) = ((ns.map V.str).length : Nat) := by simpa using q
          rw [List.length_map] at this
          omega
        simp only [decide_eq_true q, Bool.true_and] at kk
        refine go_nx ?_
        refine ⟨_, rfl, p, rfl, ⟨_, hp1⟩, fun Dl nD => ?_⟩
        refine lc_tup (K := K) (a := p) (xs := ns.map V.str) (fun i H' => Same H1 H' ∧ H' Dl = some (.lst (((ns.take i).map fun n => (valV kvs (keyS n)).isSome).map V.bl))) ?_ ?_ ?_ ?_
        · exact ⟨same_new nD, upd_same⟩
        · rintro i H' _ ⟨s2, _⟩
          exact Same.sqt s2 hp1
        · rintro i x H' hi ⟨s2, hD⟩
          rw [List.getElem?_map] at hi
          obtain ⟨n, hn, rfl⟩ := Option.map_eq_some_iff.mp hi
          refine ⟨rfl, ?_⟩
          refine ⟨_, rfl, _, rfl, a, _, rfl, .inl ⟨kvs, keyS n, .inl (s2 _ _ ha1), rfl, rfl⟩, _, hD, ?_, Same.put s2 nD, ?_⟩
          · rw [List.length_map, List.length_map, List.length_take, sizeLine_eq]; omega
          · rw [upd_same, List.take_add_one, hn, List.map_append, List.map_append]
            rfl
        · rintro H2 ⟨s2, hD⟩
          rw [List.length_map, List.take_length] at hD
          refine ⟨Dl, _, rfl, SqL.of hD, ?_⟩
          rw [all_len]
          refine ⟨_, rfl, ite2 (fun q1 => ?_) (fun q1 => ?_)⟩
          · have q1 : ns.all (fun n => (valV kvs (keyS n)).isSome) = false := by simpa using q1
            exact kk (by rw [q1, Bool.false_and]) s2
          have q1 : ns.all (fun n => (valV kvs (keyS n)).isSome) = true := by
            cases e : ns.all (fun n => (valV kvs (keyS n)).isSome) with
            | true => rfl
            | false => exact absurd (show (!ns.all fun n => (valV kvs (keyS n)).isSome) = true by rw [e]; rfl) q1
          simp only [q1, Bool.true_and] at kk
          refine go_nx ?_
          have some1 : ∀ n ∈ ns, ∃ v, valV kvs (keyS n) = some v := fun n m => Option.isSome_iff_exists.mp (List.all_eq_true.mp q1 n m)
          refine ⟨_, rfl, p, rfl, ⟨_, Same.sqt s2 hp1⟩, fun D2 nD2 => ?_⟩
          refine lc_tup (K := K) (a := p) (xs := ns.map V.str) (fun i H' => Same H2 H' ∧ H' D2 = some (.lst ((ns.take i).map fun n => (valV kvs (keyS n)).getD .non))) ?_ ?_ ?_ ?_
          · exact ⟨same_new nD2, upd_same⟩
          · rintro i H' _ ⟨s3, _⟩
            exact Same.sqt s3 (Same.sqt s2 hp1)
          · rintro i x H' hi ⟨s3, hD2⟩
            rw [List.getElem?_map] at hi
            obtain ⟨n, hn, rfl⟩ := Option.map_eq_some_iff.mp hi
            obtain ⟨v, hv'⟩ := some1 n (List.mem_of_getElem? hn)
            refine ⟨rfl, ?_⟩
            refine ⟨_, rfl, _, rfl, a, v, rfl, .inl ⟨kvs, keyS n, .inl (s3 _ _ (s2 _ _ ha1)), rfl, hv'.symm⟩, _, hD2, ?_, Same.put s3 nD2, ?_⟩
            · rw [List.length_map, List.length_take, sizeLine_eq]; omega
            · rw [upd_same, List.take_add_one, hn, List.map_append]
              show some (HO.lst (_ ++ [v])) = some (HO.lst (_ ++ [(valV kvs (keyS n)).getD .non]))
              rw [hv']
              rfl
          · rintro H3 ⟨s3, hD2⟩
            rw [List.length_map, List.take_length] at hD2
            refine ⟨D2, _, rfl, .inl ⟨SqL.of hD2, fun q nq => ?_⟩⟩
            have s4 := (s2.trans s3).trans (same_new (o := .tup (ns.map fun n => (valV kvs (keyS n)).getD .non)) nq)
            refine ⟨_, rfl, .inl ⟨q, _, rfl, SqT.of upd_same, (by rw [List.length_map]; omega), fun z m => ?_, fun H4 s5 => kk rfl (s4.trans s5)⟩⟩
            obtain ⟨n, mn, rfl⟩ := List.mem_map.mp m
            obtain ⟨v, hv'⟩ := some1 n mn
            obtain ⟨q', mq, eq⟩ := valV_mem hv'
            show VO _ ((valV kvs (keyS n)).getD .non)
            rw [hv']
            exact (eq ▸ hv q' mq : VO H v).grow (s1.trans s4)
      · exact ⟨_, rfl, _, _, _, _, false, rfl, .ty _, ty H1 s1, kit_ty nt, false, rfl, iteT (k H1 s1)⟩
    · refine a_if (fun b H' => b = true ∧ Same H H') (fun Q' kQ => ?_) (fun H' h => k H' h.2) (fun H' h => nomatch h.1)
      rcases bad with ⟨p, zs, rfl, hp, hl, vo, hb⟩ | ⟨n, ty, nt⟩
      · exact ⟨_, rfl, _, rfl, .inl ⟨p, zs, rfl, hp, hl, vo, fun H1 s1 => ⟨false, congrArg V.bl hb, kQ _ _ ⟨rfl, s1⟩⟩⟩⟩
      · exact ⟨_, rfl, _, rfl, .inr ⟨n, ty, nt, fun H1 s1 => ⟨false, rfl, kQ _ _ ⟨rfl, s1⟩⟩⟩⟩
end
end G

set_option Elab.async false
set_option linter.all false
set_option maxRecDepth 100000
set_option maxHeartbeats 4000000
namespace G
open PySem PySem.Spec PyProof.Rows L2
/-! ## what the dicts of the law are, pure -/
theorem perm_of_sub : ∀ {l l' : List Str}, l.Nodup → (∀ x ∈ l, x ∈ l') → l'.length = l.length → l.Perm l'
  | [], l', _, _, e => by
    rw [List.length_nil, List.length_eq_zero_iff] at e
    rw [e]
  | x :: l, l', nd, sub, e => by
    rw [List.nodup_cons] at nd
    have mx := sub x List.mem_cons_self
    have p := List.perm_cons_erase mx
    refine (List.Perm.cons x (perm_of_sub nd.2 (fun y m => ?_) ?_)).trans p.symm
    · have ne : y ≠ x := fun q => nd.1 (q ▸ m)
      exact (List.mem_erase_of_ne ne).mpr (sub y (List.mem_cons_of_mem _ m))
    · rw [List.length_erase_of_mem mx, e, List.length_cons]
      rfl
theorem take_out : ∀ {l : List Str} {i : Nat} {y : Str}, l[i]? = some y → (y :: l.eraseIdx i).Perm l
  | [], i, y, e => by simp at e
  | x :: l, 0, y, e => by
    have e : x = y := Option.some.inj e
    rw [e]
    exact List.Perm.refl _
  | x :: l, i + 1, y, e => (List.Perm.swap x y _).trans (List.Perm.cons x (take_out (l := l) (i := i) (by simpa using e)))
def leS (a b : Str) : Prop := a.cps.toList ≤ b.cps.toList
theorem rising_le : ∀ {p : Str} {l : List Str}, risingS p l = true → (p :: l).Pairwise leS
  | p, [], _ => List.pairwise_singleton _ _
  | p, x :: r, h => by
    have h : (!ltCps x.cps.toList p.cps.toList && risingS x r) = true := h
    rw [Bool.and_eq_true, Bool.not_eq_true', ltCps_eq] at h
    have h1 : leS p x := List.not_lt.mp (of_decide_eq_false h.1)
    have h2 := rising_le h.2
    refine List.pairwise_cons.mpr ⟨fun y m => ?_, h2⟩
    rcases List.mem_cons.mp m with rfl | m
    · exact h1
    · exact List.le_trans h1 ((List.pairwise_cons.mp h2).1 y m)
theorem sorted_le : ∀ {l : List Str}, sortedS l = true → l.Pairwise leS
  | [], _ => List.Pairwise.nil
  | x :: r, h => rising_le h
theorem sorted_one {a b : List Str} (ha : sortedS a = true) (hb : sortedS b = true) (p : a.Perm b) : a = b :=
  List.Perm.eq_of_pairwise (fun x y _ _ h1 h2 => by
    have e : x.cps.toList = y.cps.toList := List.le_antisymm h1 h2
    cases x; cases y
    simp at e
    rw [e]) (sorted_le ha) (sorted_le hb) p
/-- the dict of f n to g n -/
def tabF (ns : List Str) (f : Str → Str) (g : Str → V) : List (Key × V) := ns.map fun n => (keyS (f n), g n)
def InjOn (ns : List Str) (f : Str → Str) : Prop := ∀ a ∈ ns, ∀ b ∈ ns, f a = f b → a = b
theorem keyS_inj {a b : Str} (h : keyS a = keyS b) : a = b := Sum.inr.inj h
theorem tab_in {f : Str → Str} {g : Str → V} : ∀ {ns : List Str}, InjOn ns f → ∀ {n : Str}, n ∈ ns → valV (tabF ns f g) (keyS (f n)) = some (g n)
  | x :: ns, inj, n, m => by
    by_cases e : f x = f n
    · have := inj x List.mem_cons_self n m e
      subst this
      exact valV_pos rfl
    · have ne : n ≠ x := fun q => e (by rw [q])
      have m' : n ∈ ns := by
        rcases List.mem_cons.mp m with q | q
        · exact absurd q ne
        · exact q
      show valV ((keyS (f x), g x) :: tabF ns f g) _ = _
      rw [valV_neg (fun q => e (keyS_inj q))]
      exact tab_in (fun a ha b hb => inj a (List.mem_cons_of_mem _ ha) b (List.mem_cons_of_mem _ hb)) m'
theorem tab_out {f : Str → Str} {g : Str → V} {m : Str} : ∀ {ns : List Str}, (∀ n ∈ ns, f n ≠ m) → valV (tabF ns f g) (keyS m) = none
  | [], _ => rfl
  | x :: ns, h => by
    show valV ((keyS (f x), g x) :: tabF ns f g) _ = _
    rw [valV_neg (fun q => h x List.mem_cons_self (keyS_inj q))]
    exact tab_out fun n m => h n (List.mem_cons_of_mem _ m)
theorem merge_new : ∀ (more acc : List (Key × V)), ((acc ++ more).map (·.1)).Nodup → mergeK acc more = acc ++ more
  | [], acc, _ => by simp [mergeK]
  | q :: r, acc, nd => by
    show mergeK (putK acc q.1 q.2) r = _
    have no : valV acc q.1 = none := by
      cases e : valV acc q.1 with
      | none => rfl
      | some v =>
        rw [List.map_append, List.nodup_append] at nd
        exact absurd rfl (nd.2.2 q.1 (valV_in e) q.1 (by simp))
    rw [putK_new _ no, merge_new r (acc ++ [(q.1, q.2)]) (by simpa using nd), List.append_assoc]
    rfl
theorem nodup_map {ns : List Str} {f : Str → Str} (nd : ns.Nodup) (inj : InjOn ns f) : (ns.map f).Nodup := by
  induction ns with
  | nil => simp
  | cons x ns ih =>
    rw [List.nodup_cons] at nd
    rw [List.map_cons, List.nodup_cons]
    refine ⟨fun m => ?_, ih nd.2 fun a ha b hb => inj a (List.mem_cons_of_mem _ ha) b (List.mem_cons_of_mem _ hb)⟩
    obtain ⟨y, my, e⟩ := List.mem_map.mp m
    exact nd.1 (inj y (List.mem_cons_of_mem _ my) x List.mem_cons_self e ▸ my)
theorem inj_of {ns : List Str} {f : Str → Str} (nd : (ns.map f).Nodup) : InjOn ns f := by
  induction ns with
  | nil => exact fun _ h => nomatch h
  | cons x ns ih =>
    rw [List.map_cons, List.nodup_cons] at nd
    intro a ha b hb e
    rcases List.mem_cons.mp ha with q1 | q1
    · rcases List.mem_cons.mp hb with q2 | q2
      · rw [q1, q2]
      · exact absurd (List.mem_map.mpr ⟨b, q2, by rw [← e, q1]⟩) nd.1
    · rcases List.mem_cons.mp hb with q2 | q2
      · exact absurd (List.mem_map.mpr ⟨a, q1, by rw [e, q2]⟩) nd.1
      · exact ih nd.2 a q1 b q2 e
theorem tab_keys (ns : List Str) (f : Str → Str) (g : Str → V) : (tabF ns f g).map (·.1) = (ns.map f).map keyS := by simp [tabF]
theorem nodup_key {xs : List Str} (h : xs.Nodup) : (xs.map keyS).Nodup := by
  induction xs with
  | nil => simp
  | cons x xs ih =>
    rw [List.nodup_cons] at h
    rw [List.map_cons, List.nodup_cons]
    exact ⟨fun m => by
      obtain ⟨y, my, e⟩ := List.mem_map.mp m
      exact h.1 (keyS_inj e ▸ my), ih h.2⟩
theorem tab_merge {ns : List Str} {f : Str → Str} {g : Str → V} (nd : ns.Nodup) (inj : InjOn ns f) : mergeK [] (tabF ns f g) = tabF ns f g := by
  rw [merge_new _ _ (by rw [List.nil_append, tab_keys]; exact nodup_key (nodup_map nd inj)), List.nil_append]
/-- lookups that answer texts -/
theorem ren_of {ns : List Str} {kvs : List (Key × V)} {h : Str → Str} (nd : ns.Nodup) (len : kvs.length = ns.length) (at_ : ∀ n ∈ ns, valV kvs (keyS n) = some (.str (h n))) (nb : ∀ n ∈ ns, nameB (h n) = true) : renB ns kvs = decide (ns.map h).Nodup := by
  have e : (ns.map fun n => (valV kvs (keyS n)).getD .non) = (ns.map h).map V.str := by
    rw [List.map_map]
    refine List.map_congr_left fun n m => ?_
    rw [at_ n m]
    rfl
  unfold renB diffB
  rw [decide_eq_true len, Bool.true_and, e, show ns.all (fun n => (valV kvs (keyS n)).isSome) = true from List.all_eq_true.mpr fun n m => by rw [at_ n m]; rfl, Bool.true_and,
    show ((ns.map h).map V.str).all nameV = true from List.all_eq_true.mpr fun z m => by
      obtain ⟨y, my, rfl⟩ := List.mem_map.mp m
      obtain ⟨n, mn, rfl⟩ := List.mem_map.mp my
      exact nb n mn, Bool.true_and]
  by_cases q : (ns.map h).Nodup
  · rw [decide_eq_true q, decide_eq_true (nodup_str.mpr q)]
  · rw [decide_eq_false q, decide_eq_false (fun z => q (nodup_str.mp z))]
theorem ren_good {ns : List Str} {h : Str → Str} (nd : ns.Nodup) (inj : InjOn ns h) (nb : ∀ n ∈ ns, nameB (h n) = true) : renB ns (tabF ns id fun n => .str (h n)) = true := by
  rw [ren_of (h := h) nd (by simp [tabF]) (fun n m => tab_in (f := id) (fun _ _ _ _ e => e) m) nb, decide_eq_true (nodup_map nd inj)]
theorem ren_none {ns : List Str} {kvs : List (Key × V)} {n : Str} (m : n ∈ ns) (h : valV kvs (keyS n) = none) : renB ns kvs = false := by
  unfold renB
  rw [show ns.all (fun n => (valV kvs (keyS n)).isSome) = false from List.all_eq_false.mpr ⟨n, m, by rw [h]; exact Bool.false_ne_true⟩, Bool.false_and, Bool.and_false]
theorem ren_len {ns : List Str} {kvs : List (Key × V)} (h : kvs.length ≠ ns.length) : renB ns kvs = false := by
  unfold renB
  rw [decide_eq_false h, Bool.false_and]
theorem ren_bad {ns : List Str} {kvs : List (Key × V)} {n : Str} {v : V} (m : n ∈ ns) (h : valV kvs (keyS n) = some v) (b : nameV v = false) : renB ns kvs = false := by
  unfold renB diffB
  rw [show (ns.map fun n => (valV kvs (keyS n)).getD .non).all nameV = false from List.all_eq_false.mpr ⟨v, List.mem_map.mpr ⟨n, m, by rw [h]; rfl⟩, by rw [b]; exact Bool.false_ne_true⟩, Bool.false_and, Bool.and_false, Bool.and_false]
/-- the reverse -/
theorem ren_back {ns ys zs : List Str} {h : Str → Str} (nd : ns.Nodup) (inj : InjOn ns h) (nb : ∀ n ∈ ns, nameB n = true) (py : ys.Perm (ns.map h)) (sy : sortedS ys = true) (pz : zs.Perm ns) (sz : sortedS zs = true) :
    renB ns (tabF ns h fun n => .str n) = decide (ys = zs) := by
  by_cases q : ∀ m ∈ ns, m ∈ ns.map h
  · have p : ns.Perm (ns.map h) := perm_of_sub nd q (by simp)
    have e : ys = zs := sorted_one sy sz (py.trans (p.symm.trans pz.symm))
    rw [decide_eq_true e]
    have ex : ∀ m : Str, ∃ n, m ∈ ns → n ∈ ns ∧ h n = m := fun m => by
      by_cases mm : m ∈ ns
      · obtain ⟨n, a, b⟩ := List.mem_map.mp (q m mm)
        exact ⟨n, fun _ => ⟨a, b⟩⟩
      · exact ⟨m, fun z => absurd z mm⟩
    obtain ⟨k, hk⟩ : ∃ k : Str → Str, ∀ m, m ∈ ns → k m ∈ ns ∧ h (k m) = m := ⟨fun m => (ex m).choose, fun m => (ex m).choose_spec⟩
    have at_ : ∀ n ∈ ns, valV (tabF ns h fun n => .str n) (keyS n) = some (.str (k n)) := fun n m => by
      have := tab_in (g := fun n => V.str n) inj (hk n m).1
      rwa [(hk n m).2] at this
    rw [ren_of nd (by simp [tabF]) at_ fun n m => nb _ (hk n m).1]
    refine decide_eq_true (nodup_map nd fun a ha b hb e => ?_)
    rw [← (hk a ha).2, ← (hk b hb).2, e]
  · have ne : ys ≠ zs := fun e => q fun m mm => (py.mem_iff.mp (e ▸ pz.mem_iff.mpr mm))
    rw [decide_eq_false ne]
    obtain ⟨m, z⟩ := Classical.not_forall.mp q
    obtain ⟨mm, no⟩ := Classical.not_imp.mp z
    exact ren_none mm (tab_out fun n mn e => no (List.mem_map.mpr ⟨n, mn, e⟩))
theorem put_len {kvs : List (Key × V)} {k : Key} {v : V} (h : valV kvs k ≠ none) : (putK kvs k v).length = kvs.length := by
  unfold putK
  rw [valV_any, Option.isSome_iff_ne_none.mpr h, if_pos rfl, List.length_map]
/-- one name led elsewhere -/
theorem ren_same {ns : List Str} {h : Str → Str} {a b : Str} (nd : ns.Nodup) (inj : InjOn ns h) (nb : ∀ n ∈ ns, nameB (h n) = true) (ha : a ∈ ns) (hb : b ∈ ns) : renB ns (putK (tabF ns id fun n => .str (h n)) (keyS a) (.str (h b))) = decide (a = b) := by
  have i0 : InjOn ns id := fun _ _ _ _ e => e
  have ta : valV (tabF ns id fun n => .str (h n)) (keyS a) = some (.str (h a)) := tab_in (f := id) i0 ha
  have at_ : ∀ n ∈ ns, valV (putK (tabF ns id fun n => .str (h n)) (keyS a) (.str (h b))) (keyS n) = some (.str (if n = a then h b else h n)) := fun n m => by
    rw [valV_put]
    by_cases e : n = a
    · rw [if_pos (by rw [e]), if_pos e]
    · rw [if_neg (fun q => e (keyS_inj q)), if_neg e]
      exact tab_in (f := id) i0 m
  rw [ren_of nd (by rw [put_len (by rw [ta]; exact Option.some_ne_none _)]; simp [tabF]) at_ fun n m => by
    split
    · exact nb b hb
    · exact nb n m]
  by_cases e : a = b
  · subst e
    rw [decide_eq_true rfl]
    refine decide_eq_true (nodup_map nd fun x hx y hy q => inj x hx y hy ?_)
    have f : ∀ z : Str, (if z = a then h a else h z) = h z := fun z => by
      by_cases q : z = a
      · rw [if_pos q, q]
      · rw [if_neg q]
    rwa [f, f] at q
  · rw [decide_eq_false e]
    refine decide_eq_false fun z => e (inj_of z a ha b hb ?_)
    rw [if_pos rfl, if_neg (Ne.symm e)]
theorem ren_put_bad {ns : List Str} {h : Str → Str} {a : Str} {v : V} (ha : a ∈ ns) (b : nameV v = false) : renB ns (putK (tabF ns id fun n => .str (h n)) (keyS a) v) = false :=
  ren_bad ha (by rw [valV_put, if_pos rfl]) b
/-- a renaming and names that it speaks of -/
structure Gd (ns : List Str) (h : Str → Str) : Prop where
  nd : ns.Nodup
  inj : InjOn ns h
  pos : 1 ≤ ns.length
  few : ns.length ≤ 8
  nb : ∀ n ∈ ns, nameB n = true ∧ n.length ≤ 10 ∧ n ≠ "extra" ∧ PyData.strOk n = true
  hb : ∀ n ∈ ns, nameB (h n) = true ∧ (h n).length ≤ 10 ∧ PyData.strOk (h n) = true
theorem Gd.diff {ns : List Str} {h : Str → Str} (g : Gd ns h) : diffB (ns.map V.str) = true := by
  unfold diffB
  rw [decide_eq_true (nodup_str.mpr g.nd), Bool.and_true]
  exact List.all_eq_true.mpr fun z m => by
    obtain ⟨n, mn, rfl⟩ := List.mem_map.mp m
    exact (g.nb n mn).1
end G

set_option Elab.async false
set_option linter.all false
set_option maxRecDepth 100000
set_option maxHeartbeats 4000000
namespace G
open PySem PySem.Spec PyProof.Rows L2 C8
/-! ## the law's `_law_mixed` -/
def spMix : Sp := fun vs H Q _ => ∃ (d l : Addr) (xs : List Str), vs = [.ref d, .ref l] ∧ DiceAt H d ∧ l ≠ d ∧ H l = some (.lst (xs.map V.str)) ∧ xs.length ≤ 1000 ∧
  ∀ (q : Addr) (es : List Str) (H' : Hp), Mv d H H' → H q = none → H' q = some (.lst (es.map V.str)) → es.Perm xs → Q (.ref q) H'
theorem erase_map {xs : List Str} (i : Nat) : (xs.map V.str).eraseIdx i = (xs.eraseIdx i).map V.str := by
  induction xs generalizing i with
  | nil => simp
  | cons x xs ih =>
    cases i with
    | zero => rfl
    | succ i => simp [ih]
section
variable {P : Program} {w : World} {K : PySem.W.Frag} {mg : Str → Option Value} {base : Heap} {CI : Addr}
theorem c_mix (T : Txt K mg) (C__law_roll : CalG P w K mg base 1 "_law_roll" ["_law_dice_here", "_law_total"] spRoll) (D : DefAt K mg "_law_mixed" s__law_mixed ["_law_dice_here", "_law_items"]) : CalG P w K mg base 2 "_law_mixed" ["_law_dice_here", "_law_items"] spMix := by
  refine calOk D sc__law_mixed (fun xs H Q E h => ?_) (fun f cdv A out s H xs Q E hgd hr h => ?_)
  · obtain ⟨d, l, ds, rfl, _⟩ := h
    rfl
  · obtain ⟨d, l, ds, rfl, hd, ld, hl, hn, k⟩ := h
    have nd := sc__law_mixed.nd
    refine ⟨_, (pss_cons (ps_par (i := 2) (j := 3) (by rfl) nd rfl rfl (by decide) rfl rfl (pa_cons (pe_callTy call_list_of (by rfl) T.list (by decide +kernel) (pa_cons (pv 1) pa_nil)) (pa_cons (pe_lst pa_nil) pa_nil)) (by rfl))
      (pss_cons (ps_for PassesOwn.never rfl (pi_range1 rfl T.range (pa_cons (pe_callB call_len_seq (by rfl) T.len (by decide +kernel) (pa_cons (pv 1) pa_nil)) pa_nil)) (pg_name (i := 4) nd rfl (.inl rfl)) (pss_one (ps_expr (pe_bm PySem.F.plainAttrs_list PySem.F.slot_list_append PySem.F.type_list_append mt_append (pv 3) (pa_cons (pe_bm PySem.F.plainAttrs_list PySem.F.slot_list_pop PySem.F.type_list_pop mt_popAt (pv 2) (pa_cons (pe_k C__law_roll hgd hr (by decide) rfl (pa_cons (pv 0) (pa_cons (pe_callB call_len_seq (by rfl) T.len (by decide +kernel) (pa_cons (pv 2) pa_nil)) pa_nil))) pa_nil)) pa_nil)))))
      (pss_one (ps_ret (pv 3))))), ?_⟩
    refine ⟨_, rfl, _, _, rfl, .inl (SqL.of hl), fun a na => ?_⟩
    have s1 := same_new (o := .lst (ds.map V.str)) na
    refine ⟨(by show 0 ≤ sizeLine; decide), fun q nq => ?_⟩
    have s2 := same_new (o := .lst []) nq
    have nqH : H q = none := s1.free nq
    have neq : a ≠ q := ne_of_none upd_same nq
    have m2 := ((Mv.refl hd).new (o := .lst (ds.map V.str)) na).new (o := .lst []) nq
    have ad := hd.ne na
    have qd := hd.ne nqH
    refine ⟨_, _, rfl, ?_⟩
    refine ⟨_, rfl, l, _, rfl, .inl (SqL.of (s2 _ _ (s1 _ _ hl))), _, rfl, (by rw [List.length_map]; omega), (by rw [List.length_map]; omega), ?_⟩
    refine for_range (fun i σ H' => ∃ (v4 : Option V) (es gs : List Str), σ = [some (.ref d), some (.ref l), some (.ref a), some (.ref q), v4] ∧ Mv d H H' ∧ H' a = some (.lst (es.map V.str)) ∧ H' q = some (.lst (gs.map V.str)) ∧ (gs ++ es).Perm ds ∧ gs.length = i) ?_ ?_ ?_
    · exact ⟨_, ds, [], rfl, m2, s2 _ _ upd_same, upd_same, List.Perm.refl _, rfl⟩
    · rintro i σ H2 hi ⟨v4, es, gs, rfl, m, ha, hq, pm, l2⟩
      rw [List.length_map] at hi
      have l1 := pm.length_eq
      rw [List.length_append] at l1
      have hin : i < ds.length := by omega
      refine ⟨_, rfl, .inl ⟨rfl, _, SqL.of hq⟩, _, rfl, .inl ⟨rfl, _, SqL.of ha⟩, _, rfl, _, rfl, a, _, rfl, .inl (SqL.of ha), ?_⟩
      refine ⟨d, _, rfl, m.dice, (by rw [List.length_map]; omega), ?_, fun r H3 r0 r1 m3 _ => ?_⟩
      · rw [List.length_map, Int.natAbs_natCast]
        exact Nat.lt_of_le_of_lt (Nat.log2_le_self _) (by omega)
      rw [List.length_map] at r1
      have ha3 := m3.get ad ha
      have hq3 := m3.get qd hq
      obtain ⟨y, hy⟩ : ∃ y, es[r.toNat]? = some y := ⟨_, List.getElem?_eq_getElem (by omega)⟩
      have ix : seqIndex? r (es.map V.str).length = some r.toNat := PySem.seqIndex_of r0 (by rw [List.length_map]; omega)
      refine ⟨a, _, r, r.toNat, .str y, rfl, rfl, ha3, (by omega), (by omega), ix, (by rw [List.getElem?_map, hy]; rfl), ?_⟩
      rw [erase_map]
      have hq4 : upd H3 a (.lst ((es.eraseIdx r.toNat).map V.str)) q = some (.lst (gs.map V.str)) := by rw [upd_ne neq.symm]; exact hq3
      refine ⟨q, _, .str y, rfl, rfl, hq4, Nat.lt_of_lt_of_le (show (gs.map V.str).length < 20001 by rw [List.length_map]; omega) (by decide), ?_⟩
      refine ⟨_, es.eraseIdx r.toNat, gs ++ [y], rfl, ((m.trans m3).set na ad).set nqH qd, ?_, ?_, ?_, ?_⟩
      · rw [upd_ne neq]
        exact upd_same
      · rw [upd_same, List.map_append] <;> rfl
      · rw [List.append_assoc]
        exact (List.Perm.append_left gs (take_out hy)).trans pm
      · rw [List.length_append, l2] <;> rfl
    · rintro σ H2 ⟨v4, es, gs, rfl, m, ha, hq, pm, l2⟩
      have l1 := pm.length_eq
      rw [List.length_append] at l1
      rw [List.length_map] at l2
      have e0 : es = [] := List.eq_nil_of_length_eq_zero (by omega)
      subst e0
      rw [List.append_nil] at pm
      exact ⟨_, rfl, k q gs H2 m nqH hq pm⟩
/-! ## `_law_told` -/
structure InvO (K : PySem.W.Frag) (mg : Str → Option Value) (CI : Addr) : Prop where
  x : ErrAt K mg "InvalidOperation" CI veL "ValueError.__new__"
  pp : PySem.W.exmOne K (.ref CI) (.ref CI) = some true
def spTold (K : PySem.W.Frag) (CI : Addr) : Sp := fun vs H Q _ => spRen K CI vs H Q (fun _ _ H' => Q (.str "operation") H')
theorem c_told (T : Txt K mg) (IV : InvO K mg CI) (C_is_renaming : CalXQ false P w K mg base 4 "is_renaming" ["names", "value"] (spRen K CI))
    (D : DefAt K mg "_law_told" s__law_told ["_law_names", "_law_value"]) : CalG P w K mg base 6 "_law_told" ["_law_names", "_law_value"] (spTold K CI) := by
  refine calOk D sc__law_told (fun xs H Q E h => ?_) (fun f cdv A out s H xs Q E hgd hr h => ?_)
  · obtain ⟨x, v, rfl, _⟩ := h
    rfl
  · obtain ⟨x, v, rfl, h⟩ := h
    have nd := sc__law_told.nd
    refine ⟨_, pss_one (ps_try_only rfl rfl ⟨rfl, by decide, .inl IV.x.at_⟩ LamX.takes0 (fun W pn xe tk _ => pss_one (ps_ret (pe_kxq C_is_renaming tk (fun z => Bool.noConfusion z) hr (by decide) rfl (pa_cons (pv 0) (pa_cons (pv 1) pa_nil))))) (fun a oe cls d pn _ _ => pss_one (ps_ret pe_str))), ?_⟩
    refine ⟨_, rfl, _, rfl, x, v, rfl, ?_⟩
    rcases h with g | ⟨bad, k⟩
    · exact .inl g
    · exact .inr ⟨bad, fun H' s => ⟨true, IV.pp, fun _ a _ => k H' s, fun z => Bool.noConfusion z⟩⟩
end
end G

set_option Elab.async false
set_option linter.all false
set_option maxRecDepth 100000
set_option maxHeartbeats 4000000
namespace G
open PySem PySem.Spec PyProof.Rows L2 C8
/-! ## `_law_near` -/
theorem st_norm {t : TS} {D : Ends} {σ : L2.St} {H : Hp} (σ' : L2.St) (e : σ = σ') (h : t D σ' H) : t D σ H := by
  rw [e]
  exact h
theorem DiceAt.nl {H : Hp} {d a : Addr} {o : HO} (hd : DiceAt H d) (h : H a = some o) (n : ∀ xs, o ≠ .lst xs) : a ≠ d := fun e => by
  obtain ⟨l, s, c, q⟩ := hd
  rw [e, q] at h
  exact n _ (Option.some.inj h).symm
/-- what is drawn beside names ns, and what is due for it; d: the dice -/
def Due (d : Addr) (H : Hp) (ns : List Str) (v : V) (b : Bool) : Prop :=
  (∃ a kvs, v = .ref a ∧ H a = some (.dK kvs) ∧ (∀ q ∈ kvs, VO H q.2) ∧ b = renB ns kvs) ∨ (b = false ∧ (v = .non ∨ (∃ a xs, v = .ref a ∧ a ≠ d ∧ H a = some (.lst xs)) ∨ ∃ a xs, v = .ref a ∧ H a = some (.tup xs)))
theorem VO.mv {d : Addr} {H H' : Hp} (hd : DiceAt H d) (m : Mv d H H') {z : V} : VO H z → VO H' z
  | .inl h => .inl h
  | .inr (.inl h) => .inr (.inl h)
  | .inr (.inr (.inl h)) => .inr (.inr (.inl h))
  | .inr (.inr (.inr ⟨a, xs, e, h⟩)) => .inr (.inr (.inr ⟨a, xs, e, m.get (hd.nl h fun _ z => by cases z) h⟩))
theorem Due.mv {d : Addr} {H H' : Hp} {ns : List Str} {v : V} {b : Bool} (hd : DiceAt H d) (m : Mv d H H') (h : Due d H ns v b) : Due d H' ns v b := by
  rcases h with ⟨a, kvs, e, ha, hv, eb⟩ | ⟨eb, h⟩
  · exact .inl ⟨a, kvs, e, m.get (hd.nl ha fun _ z => by cases z) ha, fun q mq => (hv q mq).mv hd m, eb⟩
  · rcases h with h | ⟨a, xs, e, n, ha⟩ | ⟨a, xs, e, ha⟩
    · exact .inr ⟨eb, .inl h⟩
    · exact .inr ⟨eb, .inr (.inl ⟨a, xs, e, n, m.get n ha⟩)⟩
    · exact .inr ⟨eb, .inr (.inr ⟨a, xs, e, m.get (hd.nl ha fun _ z => by cases z) ha⟩)⟩
/-- a pair of a value and what is due -/
def Item (d : Addr) (H : Hp) (ns : List Str) (x : V) : Prop := ∃ t v b, x = .ref t ∧ H t = some (.tup [v, .bl b]) ∧ Due d H ns v b
theorem Item.mv {d : Addr} {H H' : Hp} {ns : List Str} {x : V} (hd : DiceAt H d) (m : Mv d H H') (h : Item d H ns x) : Item d H' ns x := by
  obtain ⟨t, v, b, e, ht, hv⟩ := h
  exact ⟨t, v, b, e, m.get (hd.nl ht fun _ z => by cases z) ht, hv.mv hd m⟩
def fineK (ns : List Str) (h : Str → Str) : List (Key × V) := tabF ns id fun n => .str (h n)
theorem fine_vo {ns : List Str} {h : Str → Str} (g : Gd ns h) (H : Hp) : ∀ q ∈ fineK ns h, VO H q.2 := fun q m => by
  obtain ⟨n, mn, rfl⟩ := List.mem_map.mp m
  have := (g.hb n mn).2.1
  exact .inl ⟨h n, rfl, by omega⟩
theorem back_vo {ns : List Str} {h : Str → Str} (g : Gd ns h) (H : Hp) : ∀ q ∈ tabF ns h (fun n => .str n), VO H q.2 := fun q m => by
  obtain ⟨n, mn, rfl⟩ := List.mem_map.mp m
  have := (g.nb n mn).2.1
  exact .inl ⟨n, rfl, by omega⟩
theorem fine_get {ns : List Str} {h : Str → Str} {n : Str} (m : n ∈ ns) : valV (fineK ns h) (keyS n) = some (.str (h n)) := tab_in (f := id) (fun _ _ _ _ e => e) m
theorem putK_mem {kvs : List (Key × V)} {k : Key} {v : V} {q : Key × V} (m : q ∈ putK kvs k v) : q.2 = v ∨ q ∈ kvs := by
  unfold putK at m
  split at m
  · obtain ⟨p, mp, e⟩ := List.mem_map.mp m
    split at e
    · exact .inl (e ▸ rfl)
    · exact .inr (e ▸ mp)
  · rcases List.mem_append.mp m with m | m
    · exact .inr m
    · exact .inl (by rw [List.mem_singleton.mp m])
theorem merge_snoc {ns : List Str} {h : Str → Str} (g : Gd ns h) (k : Key) (v : V) : mergeK [] (fineK ns h ++ [(k, v)]) = putK (fineK ns h) k v := by
  have e : mergeK [] (fineK ns h ++ [(k, v)]) = putK (mergeK [] (fineK ns h)) k v := by
    unfold mergeK
    rw [List.foldl_append] <;> rfl
  rw [e, fineK, tab_merge (f := id) g.nd fun _ _ _ _ e => e]
theorem paired_up {α β : Type} {F G : α → β → Prop} {as : List α} {bs : List β} (h : ∀ a b, F a b → G a b) (p : Paired F as bs) : Paired G as bs := L2.Paired.mapP p h
theorem paired_snoc {α β : Type} {F : α → β → Prop} {a : α} {b : β} : ∀ {as : List α} {bs : List β}, Paired F as bs → F a b → Paired F (as ++ [a]) (bs ++ [b])
  | _, _, .nil, h => .cons h .nil
  | _, _, .cons x p, h => .cons x (paired_snoc p h)
theorem str_eqv : ∀ ys zs : List Str, PyData.eqvAll (ys.map .str) (zs.map .str) = decide (ys = zs)
  | [], [] => by simp [PyData.eqvAll]
  | [], _ :: _ => by simp [PyData.eqvAll]
  | _ :: _, [] => by simp [PyData.eqvAll]
  | y :: ys, z :: zs => by
    have ih := str_eqv ys zs
    simp only [List.map_cons, PyData.eqvAll, PyData.eqv, ih]
    by_cases e : y = z
    · by_cases e2 : ys = zs
      · simp [e, e2]
      · simp [e, e2]
    · simp [e]
theorem list_eqv (ys zs : List Str) : PyData.eqv (.list (ys.map .str)) (.list (zs.map .str)) = decide (ys = zs) := by
  simp only [PyData.eqv]
  exact str_eqv ys zs
theorem strs_dx {H : Hp} : ∀ ws : List Str, DxAll H (ws.map V.str) (ws.map PyData.str)
  | [] => .nil
  | w :: r => .cons (.str w) (strs_dx r)
theorem strs_noDict : ∀ ws : List Str, PyData.hasDictAll (ws.map PyData.str) = false
  | [] => by simp [PyData.hasDictAll]
  | w :: r => by simp [PyData.hasDictAll, PyData.hasDict, strs_noDict r]
theorem strs_shape (ws : List Str) (h : ∀ w ∈ ws, PyData.strOk w = true) : SeqAt.shaped (.list (ws.map .str)) = true := by
  have c : ∀ ws : List Str, (∀ w ∈ ws, PyData.strOk w = true) → PyData.canLayAll0 (ws.map PyData.str) = true ∧ PyData.depthAll (ws.map PyData.str) = 0 := by
    intro ws
    induction ws with
    | nil => simp [PyData.canLayAll0, PyData.depthAll]
    | cons w r ih =>
      intro hw
      obtain ⟨i1, i2⟩ := ih fun x m => hw x (List.mem_cons_of_mem _ m)
      exact ⟨by simp [PyData.canLayAll0, PyData.canLay0, hw w List.mem_cons_self, i1], by simp [PyData.depthAll, PyData.depth, i2]⟩
  obtain ⟨c1, c2⟩ := c ws h
  show (PyData.canLay0 (.list _) && decide (PyData.depth (.list _) ≤ 64)) = true
  rw [Bool.and_eq_true_iff]
  exact ⟨by simp [PyData.canLay0, c1], decide_eq_true (by simp [PyData.depth, c2])⟩
def spNear (K : PySem.W.Frag) : Sp := fun vs H Q _ => ∃ (d nt fd : Addr) (ns : List Str) (h : Str → Str), vs = [.ref d, .ref nt, .ref fd] ∧ DiceAt H d ∧ H nt = some (.tup (ns.map V.str)) ∧ H fd = some (.dK (fineK ns h)) ∧ Gd ns h ∧
  ∀ (x : V) (H' : Hp), Mv d H H' → Item d H' ns x → Q x H'
section
variable {P : Program} {w : World} {K : PySem.W.Frag} {mg : Str → Option Value} {base : Heap} {CI : Addr}
theorem c_near (T : Txt K mg) (C__law_pick : CalG P w K mg base 2 "_law_pick" ["_law_dice_here", "_law_items"] (spPick K)) (D : DefAt K mg "_law_near" s__law_near ["_law_dice_here", "_law_names", "_law_fine"]) :
    CalG P w K mg base 4 "_law_near" ["_law_dice_here", "_law_names", "_law_fine"] (spNear K) := by
  refine calOk D sc__law_near (fun xs H Q E h => ?_) (fun f cdv A out s H xs Q E hgd hr h => ?_)
  · obtain ⟨d, nt, fd, ns, h, rfl, _⟩ := h
    rfl
  · obtain ⟨d, nt, fd, ns, h, rfl, hd, hn, hf, gd, k⟩ := h
    have nd := sc__law_near.nd
    refine ⟨_, (pss_cons (ps_set (i := 4) nd rfl (.inl rfl) (pe_lst (pa_cons (pe_tup (pa_cons (pv 2) (pa_cons pe_bl pa_nil))) (pa_cons (pe_tup (pa_cons (pe_callTy (call_dictP rfl) (by rfl) T.dict (by decide +kernel) (pa_cons (pe_lc (own := [("_law_name", 3)]) (g := gName 3) (by rfl) nd (pi_tup (pv 1)) (blkOk_by (own := [("_law_name", 3)]) (N := N__law_near) (sc := defScope s__law_near) (by decide +kernel)) (fun _ _ _ _ _ => pg_name (i := 3) nd rfl (.inl rfl)) (fun _ _ _ _ _ => pts_nil) (fun _ _ _ _ _ => pe_tup (pa_cons (pe_dget (hu_of hr) (pv 2) (pv 3) (fun _ _ => rfl)) (pa_cons (pv 3) pa_nil)))) pa_nil)) (pa_cons (pe_cmpR (op_eqD hr.units) (pe_callB (DZ.cr_sortX rfl) (by rfl) T.sorted (by decide +kernel) (pa_cons (DZ.pe_vals (pv 2)) pa_nil)) (pe_callB (DZ.cr_sortX rfl) (by rfl) T.sorted (by decide +kernel) (pa_cons (pv 1) pa_nil)) (nomark _)) pa_nil))) pa_nil))))
      (pss_cons (ps_set (i := 3) nd rfl (.inr rfl) (pe_k C__law_pick hgd hr (by decide) rfl (pa_cons (pv 0) (pa_cons (pe_callTy call_list_of (by rfl) T.list (by decide +kernel) (pa_cons (pv 1) pa_nil)) pa_nil))))
      (pss_cons (ps_set (i := 5) nd rfl (.inl rfl) (pe_k C__law_pick hgd hr (by decide) rfl (pa_cons (pv 0) (pa_cons (pe_callTy call_list_of (by rfl) T.list (by decide +kernel) (pa_cons (pv 1) pa_nil)) pa_nil))))
      (pss_cons (ps_set (i := 6) nd rfl (.inl rfl) (pe_callTy (call_dictP rfl) (by rfl) T.dict (by decide +kernel) (pa_cons (pe_op op_cat (LiI.pe_listItems rfl (pv 2) (by rfl) T.list (by decide +kernel)) (pe_lst (pa_cons (pe_tup (pa_cons pe_str (pa_cons pe_str pa_nil))) pa_nil))) pa_nil)))
      (pss_cons (ps_set (i := 7) nd rfl (.inl rfl) (pe_callTy (call_dictP rfl) (by rfl) T.dict (by decide +kernel) (pa_cons (pe_op op_cat (LiI.pe_listItems rfl (pv 2) (by rfl) T.list (by decide +kernel)) (pe_lst (pa_cons (pe_tup (pa_cons (pv 3) (pa_cons (pe_dget (hu_of hr) (pv 2) (pv 5) (fun _ _ => rfl)) pa_nil))) pa_nil))) pa_nil)))
      (pss_cons (ps_set (i := 8) nd rfl (.inl rfl) (pe_callTy (call_dictP rfl) (by rfl) T.dict (by decide +kernel) (pa_cons (pe_op op_cat (LiI.pe_listItems rfl (pv 2) (by rfl) T.list (by decide +kernel)) (pe_lst (pa_cons (pe_tup (pa_cons (pv 3) (pa_cons (pe_k C__law_pick hgd hr (by decide) rfl (pa_cons (pv 0) (pa_cons (pe_lst (pa_cons pe_str (pa_cons pe_str (pa_cons pe_str (pa_cons pe_non (pa_cons pe_int (pa_cons (pe_tup (pa_cons pe_str pa_nil)) pa_nil))))))) pa_nil))) pa_nil))) pa_nil))) pa_nil)))
      (pss_cons (ps_set (i := 9) nd rfl (.inl rfl) (pe_callTy (call_dictP rfl) (by rfl) T.dict (by decide +kernel) (pa_cons (pe_lc (own := [("_law_one", 10)]) (g := gName 10) (by rfl) nd (pi_tup (pv 1)) (blkOk_by (own := [("_law_one", 10)]) (N := N__law_near) (sc := defScope s__law_near) (by decide +kernel)) (fun _ _ _ _ _ => pg_name (i := 10) nd rfl (.inl rfl)) (fun _ _ _ _ _ => pts_one (pt_cmpR op_ne (pv 10) (pv 3) (nomark _))) (fun _ _ _ _ _ => pe_tup (pa_cons (pv 10) (pa_cons (pe_dget (hu_of hr) (pv 2) (pv 10) (fun _ _ => rfl)) pa_nil)))) pa_nil)))
      (pss_cons (ps_set (i := 4) nd rfl (.inl rfl) (pe_op op_cat (pv 4) (pe_lst (pa_cons (pe_tup (pa_cons (pv 6) (pa_cons pe_bl pa_nil))) (pa_cons (pe_tup (pa_cons (pv 7) (pa_cons (pe_cmpR op_eq (pv 3) (pv 5) (nomark _)) pa_nil))) (pa_cons (pe_tup (pa_cons (pv 8) (pa_cons pe_bl pa_nil))) (pa_cons (pe_tup (pa_cons (pv 9) (pa_cons pe_bl pa_nil))) (pa_cons (pe_tup (pa_cons (LiI.pe_listItems rfl (pv 2) (by rfl) T.list (by decide +kernel)) (pa_cons pe_bl pa_nil))) pa_nil))))))))
      (pss_one (ps_ret (pe_k C__law_pick hgd hr (by decide) rfl (pa_cons (pv 0) (pa_cons (pe_op op_cat (pv 4) (pe_lst (pa_cons (pe_tup (pa_cons (pe_callTy call_tuple_of (by rfl) T.tuple (by decide +kernel) (pa_cons (pv 1) pa_nil)) (pa_cons pe_bl pa_nil))) (pa_cons (pe_tup (pa_cons pe_non (pa_cons pe_bl pa_nil))) (pa_cons (pe_tup (pa_cons pe_dnewK (pa_cons pe_bl pa_nil))) pa_nil))))) pa_nil))))))))))))), ?_⟩
    have len8 := gd.few
    have sz : sizeLine = 16777216 := sizeLine_eq
    refine a_set (fun v H' => ∃ so xs, v = .ref so ∧ Mv d H H' ∧ H so = none ∧ H' so = some (.lst xs) ∧ xs.length = 2 ∧ ∀ x ∈ xs, Item d H' ns x) (fun Q' kQ => ?_) ?_
    · refine ⟨_, rfl, (by show 2 ≤ sizeLine; decide), fun t1 n1 => ?_⟩
      have s1 := same_new (o := .tup [.ref fd, .bl true]) n1
      refine ⟨_, rfl, nt, rfl, ⟨_, SqT.of (s1 _ _ hn)⟩, fun Dl nD => ?_⟩
      refine lc_tup (K := K) (a := nt) (xs := ns.map V.str) (fun i H' => Same (upd H t1 (.tup [.ref fd, .bl true])) H' ∧ ∃ ts : List Addr, H' Dl = some (.lst (ts.map V.ref)) ∧ ts.length = i ∧ Paired (fun t n => H' t = some (.tup [.str (h n), .str n])) ts (ns.take i)) ?_ ?_ ?_ ?_
      · exact ⟨same_new nD, [], upd_same, rfl, .nil⟩
      · rintro i H' _ ⟨s2, _⟩
        exact SqT.of (s2 _ _ (s1 _ _ hn))
      · rintro i x H' hi ⟨s2, ts, hD, el, pr⟩
        rw [List.getElem?_map] at hi
        obtain ⟨n, hn', rfl⟩ := Option.map_eq_some_iff.mp hi
        refine ⟨rfl, ?_⟩
        refine ⟨_, rfl, _, rfl, fd, .str (h n), rfl, .inl ⟨_, keyS n, .inl (s2 _ _ (s1 _ _ hf)), rfl, (fine_get (List.mem_of_getElem? hn')).symm⟩, _, rfl, (by show 2 ≤ sizeLine; decide), fun t nt' => ?_⟩
        have nDt : Dl ≠ t := ne_of_none hD nt'
        have nDH : H Dl = none := s1.free nD
        have s3 : Same H' (upd H' t (.tup [.str (h n), .str n])) := same_new nt'
        refine ⟨_, s3 _ _ hD, (by rw [List.length_map, el]; have := (List.getElem?_eq_some_iff.mp hn').1; omega), Same.put (s2.trans s3) nD, ts ++ [t], ?_, ?_, ?_⟩
        · rw [upd_same, List.map_append] <;> rfl
        · rw [List.length_append, el] <;> rfl
        · rw [List.take_add_one, hn']
          have old : ∀ b o, o ≠ .lst (ts.map V.ref) → H' b = some o → (upd (upd H' t (.tup [.str (h n), .str n])) Dl (.lst (ts.map V.ref ++ [.ref t]))) b = some o := fun b o no e => by
            have nb : b ≠ Dl := fun q => by rw [q, hD] at e; exact no (Option.some.inj e).symm
            rw [upd_ne nb]
            exact s3 _ _ e
          refine paired_snoc (paired_up (fun a b e => old a _ (fun z => by cases z) e) pr) ?_
          rw [upd_ne (Ne.symm nDt)]
          exact upd_same
      · rintro H2 ⟨s2, ts, hD, el, pr⟩
        rw [List.length_map] at el
        rw [List.length_map, List.take_length] at pr
        have s12 := s1.trans s2
        refine ⟨Dl, ts, tabF ns h (fun n => .str n), rfl, SqL.of hD, ?_, fun bk nbk => ?_⟩
        · have conv : ∀ {as : List Addr} {bs : List Str}, Paired (fun t n => H2 t = some (.tup [.str (h n), .str n])) as bs → Paired (fun p (kv : Key × V) => SqT K H2 p [kV kv.1, kv.2]) as (tabF bs h fun n => .str n) := fun p => by
            induction p with
            | nil => exact .nil
            | cons e _ ih => exact .cons (SqT.of e) ih
          exact conv pr
        rw [tab_merge gd.nd gd.inj]
        have u3 := s2.trans (same_new (o := .dK (tabF ns h fun n => .str n)) nbk)
        have s3 := s1.trans u3
        have hbk : upd H2 bk (.dK (tabF ns h fun n => .str n)) bk = some (.dK (tabF ns h fun n => .str n)) := upd_same
        generalize upd H2 bk (.dK (tabF ns h fun n => .str n)) = H3 at u3 s3 hbk
        refine ⟨_, rfl, fd, _, rfl, s3 _ _ hf, fun vw nvw => ?_⟩
        have u4 := u3.trans (same_new (o := viewO "dict_values" vw fd) nvw)
        have s4 := s1.trans u4
        refine ⟨.ref vw, ns.map h, rfl, .inl ⟨vw, rfl, .inr (.inr ⟨fd, fineK ns h, upd_same, s4 _ _ hf, by simp [fineK, tabF]⟩)⟩, (by rw [List.length_map]; omega), fun ys p1 py sy np1 => ?_⟩
        have hbk4 := same_new (o := viewO "dict_values" vw fd) nvw _ _ hbk
        generalize upd H3 vw (viewO "dict_values" vw fd) = H4 at u4 s4 hbk4 np1 ⊢
        have u5 := u4.trans (same_new (o := .lst (ys.map V.str)) np1)
        have s5 := s1.trans u5
        refine ⟨_, rfl, .ref nt, ns, rfl, .inl ⟨nt, rfl, .inr (.inl (SqT.of (s5 _ _ hn)))⟩, (by omega), fun zs p2 pz sz' np2 => ?_⟩
        have hbk5 := same_new (o := .lst (ys.map V.str)) np1 _ _ hbk4
        have hp1 : upd H4 p1 (.lst (ys.map V.str)) p1 = some (.lst (ys.map V.str)) := upd_same
        generalize upd H4 p1 (.lst (ys.map V.str)) = H5 at u5 s5 hbk5 hp1 np2 ⊢
        have s56 := same_new (o := .lst (zs.map V.str)) np2
        have u6 := u5.trans s56
        have s6 := s1.trans u6
        have oky : ∀ w ∈ ys, PyData.strOk w = true := fun w m => by
          obtain ⟨n, mn, rfl⟩ := List.mem_map.mp (py.mem_iff.mp m)
          exact (gd.hb n mn).2.2
        have okz : ∀ w ∈ zs, PyData.strOk w = true := fun w m => (gd.nb w (pz.mem_iff.mp m)).2.2.2
        refine ⟨.list (ys.map .str), .list (zs.map .str), Dx.dp (.lst (s56 _ _ hp1) (strs_dx _)) (by simp [PyData.hasDict, strs_noDict]), Dx.dp (.lst upd_same (strs_dx _)) (by simp [PyData.hasDict, strs_noDict]), strs_shape ys oky, strs_shape zs okz, ?_⟩
        rw [list_eqv]
        have hbk6 := s56 _ _ hbk5
        generalize upd H5 p2 (.lst (zs.map V.str)) = H6 at u6 s6 hbk6 ⊢
        refine ⟨(by show 2 ≤ sizeLine; decide), fun t2 nt2 => ⟨(by show 2 ≤ sizeLine; decide), fun so nso => kQ _ _ ⟨so, [.ref t1, .ref t2], rfl, ?_, ?_, upd_same, rfl, ?_⟩⟩⟩
        · exact (Mv.refl hd).ofSame ((s6.trans (same_new nt2)).trans (same_new nso))
        · exact (s6.trans (same_new nt2)).free nso
        · have s78 := (same_new (o := .tup [.ref bk, .bl (decide (ys = zs))]) nt2).trans (same_new (o := .lst [.ref t1, .ref t2]) nso)
          have st1 : Same (upd H t1 (.tup [.ref fd, .bl true])) (upd (upd H6 t2 (.tup [.ref bk, .bl (decide (ys = zs))])) so (.lst [.ref t1, .ref t2])) := u6.trans s78
          intro x m
          rcases List.mem_cons.mp m with rfl | m
          · exact ⟨t1, .ref fd, true, rfl, st1 _ _ upd_same, .inl ⟨fd, fineK ns h, rfl, st1 _ _ (s1 _ _ hf), fine_vo gd _, (ren_good gd.nd gd.inj fun n m => (gd.hb n m).1).symm⟩⟩
          · rw [List.mem_singleton.mp m]
            exact ⟨t2, .ref bk, decide (ys = zs), rfl, same_new (o := .lst [.ref t1, .ref t2]) nso _ _ upd_same, .inl ⟨bk, _, rfl, s78 _ _ hbk6, back_vo gd _, (ren_back gd.nd gd.inj (fun n m => (gd.nb n m).1) py sy pz sz').symm⟩⟩
    · rintro _ H1 ⟨so, xs, rfl, m1, nso, hso, l2, it⟩
      have hd1 := m1.dice
      have fd_d : fd ≠ d := hd.nl hf fun _ z => by cases z
      have nt_d : nt ≠ d := hd.nl hn fun _ z => by cases z
      have so_d := hd.ne nso
      refine st_norm ([some (.ref d), some (.ref nt), some (.ref fd), none, some (.ref so), none, none, none, none, none, none]) rfl ?_
      -- a name of them, and another
      refine a_set (fun v H' => ∃ a, v = .str a ∧ a ∈ ns ∧ Mv d H1 H') (fun Q' kQ => ?_) ?_
      · refine ⟨_, rfl, _, rfl, nt, _, rfl, .inr (SqT.of (m1.get nt_d hn)), fun l nl => ?_⟩
        refine ⟨d, l, _, rfl, ((Mv.refl hd1).new nl).dice, SqL.of upd_same, hd1.ne nl, (by rw [List.length_map]; have := gd.pos; omega), (by rw [List.length_map]; omega), fun i x H2 hi m2 _ => ?_⟩
        rw [List.getElem?_map] at hi
        obtain ⟨a, ha, rfl⟩ := Option.map_eq_some_iff.mp hi
        exact kQ _ _ ⟨a, rfl, List.mem_of_getElem? ha, ((Mv.refl hd1).new nl).trans m2⟩
      rintro _ H2 ⟨a, rfl, ma, m2⟩
      refine st_norm ([some (.ref d), some (.ref nt), some (.ref fd), some (.str a), some (.ref so), none, none, none, none, none, none]) rfl ?_
      have m02 := m1.trans m2
      have hd2 := m2.dice
      refine a_set (fun v H' => ∃ b, v = .str b ∧ b ∈ ns ∧ Mv d H2 H') (fun Q' kQ => ?_) ?_
      · refine ⟨_, rfl, _, rfl, nt, _, rfl, .inr (SqT.of (m02.get nt_d hn)), fun l nl => ?_⟩
        refine ⟨d, l, _, rfl, ((Mv.refl hd2).new nl).dice, SqL.of upd_same, hd2.ne nl, (by rw [List.length_map]; have := gd.pos; omega), (by rw [List.length_map]; omega), fun i x H3 hi m3 _ => ?_⟩
        rw [List.getElem?_map] at hi
        obtain ⟨b, hb, rfl⟩ := Option.map_eq_some_iff.mp hi
        exact kQ _ _ ⟨b, rfl, List.mem_of_getElem? hb, ((Mv.refl hd2).new nl).trans m3⟩
      rintro _ H3 ⟨b, rfl, mb, m3⟩
      refine st_norm ([some (.ref d), some (.ref nt), some (.ref fd), some (.str a), some (.ref so), some (.str b), none, none, none, none, none]) rfl ?_
      have m03 := m02.trans m3
      have hd3 := m3.dice
      -- one more
      refine a_set (fun v H' => ∃ p, v = .ref p ∧ H' p = some (.dK (putK (fineK ns h) (keyS "extra") (.str "unlike"))) ∧ Mv d H3 H') (fun Q' kQ => ?_) ?_
      · refine ⟨_, rfl, fd, _, rfl, m03.get fd_d hf, fun H4 li ts old nli nts _ hli pr => ?_⟩
        have m34 : Mv d H3 H4 := (Mv.refl hd3).ofSame old
        have lp := Paired.length pr
        have ll : (fineK ns h).length = ns.length := by simp [fineK, tabF]
        refine ⟨(by show 2 ≤ sizeLine; decide), fun T nT => ⟨(by show 1 ≤ sizeLine; decide), fun L nL => ⟨li, L, ts.map V.ref, [.ref T], rfl, rfl, ?_, upd_same, ?_, fun C nC => ⟨C, ts ++ [T], fineK ns h ++ [(keyS "extra", .str "unlike")], rfl, ?_, ?_, fun p np => ?_⟩⟩⟩⟩
        · exact same_new nL _ _ (same_new nT _ _ hli)
        · rw [List.length_map]
          show ts.length + 1 ≤ sizeLine
          omega
        · refine SqL.of ?_
          rw [List.map_append]
          exact upd_same
        · have sc := (same_new nL).trans (same_new (o := .lst (ts.map V.ref ++ [.ref T])) nC)
          refine paired_snoc (paired_up (fun t q e => SqT.of (sc _ _ (same_new nT _ _ e))) pr) (SqT.of (sc _ _ upd_same))
        · refine kQ _ _ ⟨p, rfl, ?_, m34.ofSame (((same_new nT).trans ((same_new nL).trans (same_new nC))).trans (same_new np))⟩
          rw [merge_snoc gd]
          exact upd_same
      rintro _ H4 ⟨p1, rfl, hp1, m4⟩
      refine st_norm ([some (.ref d), some (.ref nt), some (.ref fd), some (.str a), some (.ref so), some (.str b), some (.ref p1), none, none, none, none]) rfl ?_
      have m04 := m03.trans m4
      have hd4 := m4.dice
      have p1_d := hd4.nl hp1 fun _ z => by cases z
      -- one leads elsewhere
      refine a_set (fun v H' => ∃ p, v = .ref p ∧ H' p = some (.dK (putK (fineK ns h) (keyS a) (.str (h b)))) ∧ Mv d H4 H') (fun Q' kQ => ?_) ?_
      · refine ⟨_, rfl, fd, _, rfl, m04.get fd_d hf, fun H5 li ts old nli nts _ hli pr => ?_⟩
        have m45 : Mv d H4 H5 := (Mv.refl hd4).ofSame old
        refine ⟨_, rfl, _, rfl, _, rfl, fd, .str (h b), rfl, .inl ⟨_, keyS b, .inl ((m04.trans m45).get fd_d hf), rfl, (fine_get mb).symm⟩, ?_⟩
        have lp := Paired.length pr
        have ll : (fineK ns h).length = ns.length := by simp [fineK, tabF]
        refine ⟨(by show 2 ≤ sizeLine; decide), fun T nT => ⟨(by show 1 ≤ sizeLine; decide), fun L nL => ⟨li, L, ts.map V.ref, [.ref T], rfl, rfl, ?_, upd_same, ?_, fun C nC => ⟨C, ts ++ [T], fineK ns h ++ [(keyS a, .str (h b))], rfl, ?_, ?_, fun p np => ?_⟩⟩⟩⟩
        · exact same_new nL _ _ (same_new nT _ _ hli)
        · rw [List.length_map]
          show ts.length + 1 ≤ sizeLine
          omega
        · refine SqL.of ?_
          rw [List.map_append]
          exact upd_same
        · have sc := (same_new nL).trans (same_new (o := .lst (ts.map V.ref ++ [.ref T])) nC)
          refine paired_snoc (paired_up (fun t q e => SqT.of (sc _ _ (same_new nT _ _ e))) pr) (SqT.of (sc _ _ upd_same))
        · refine kQ _ _ ⟨p, rfl, ?_, m45.ofSame (((same_new nT).trans ((same_new nL).trans (same_new nC))).trans (same_new np))⟩
          rw [merge_snoc gd]
          exact upd_same
      rintro _ H5 ⟨p2, rfl, hp2, m5⟩
      refine st_norm ([some (.ref d), some (.ref nt), some (.ref fd), some (.str a), some (.ref so), some (.str b), some (.ref p1), some (.ref p2), none, none, none]) rfl ?_
      have m05 := m04.trans m5
      have hd5 := m5.dice
      have p2_d := hd5.nl hp2 fun _ z => by cases z
      -- one leads to no name
      refine a_set (fun v H' => ∃ p y, v = .ref p ∧ nameV y = false ∧ VO H' y ∧ H' p = some (.dK (putK (fineK ns h) (keyS a) y)) ∧ Mv d H5 H') (fun Q' kQ => ?_) ?_
      · refine ⟨_, rfl, fd, _, rfl, m05.get fd_d hf, fun H6 li ts old nli nts _ hli pr => ?_⟩
        have m56 : Mv d H5 H6 := (Mv.refl hd5).ofSame old
        have hd6 := m56.dice
        refine ⟨_, rfl, _, rfl, (by show 1 ≤ sizeLine; decide), fun w nw => ⟨(by show 6 ≤ sizeLine; decide), fun l nl => ?_⟩⟩
        have M2 := ((Mv.refl hd6).new (o := .tup [.str "a"]) nw).new (o := .lst [.str "", .str "A", .str "ninechars", .non, .int 7, .ref w]) nl
        refine ⟨d, l, [.str "", .str "A", .str "ninechars", .non, .int 7, .ref w], rfl, M2.dice, SqL.of upd_same, (((Mv.refl hd6).new (o := .tup [.str "a"]) nw).dice).ne nl, (by show 0 < 6; decide), (by show 6 ≤ 1000; decide), fun i y H7 hi m7 _ => ?_⟩
        have M67 := M2.trans m7
        have hw := m7.get (M2.dice.nl (same_new nl _ _ upd_same) fun _ z => by cases z) (same_new (o := .lst [.str "", .str "A", .str "ninechars", .non, .int 7, .ref w]) nl _ _ (upd_same (H := H6) (a := w) (o := .tup [.str "a"])))
        have hy : nameV y = false ∧ VO H7 y := by
          have my := List.mem_of_getElem? hi
          simp only [List.mem_cons, List.not_mem_nil, or_false] at my
          rcases my with rfl | rfl | rfl | rfl | rfl | rfl
          · exact ⟨by decide +kernel, .inl ⟨_, rfl, by decide +kernel⟩⟩
          · exact ⟨by decide +kernel, .inl ⟨_, rfl, by decide +kernel⟩⟩
          · exact ⟨by decide +kernel, .inl ⟨_, rfl, by decide +kernel⟩⟩
          · exact ⟨rfl, .inr (.inl rfl)⟩
          · exact ⟨rfl, .inr (.inr (.inl ⟨_, rfl⟩))⟩
          · exact ⟨rfl, .inr (.inr (.inr ⟨w, _, rfl, hw⟩))⟩
        replace hli := M67.get (hd5.ne nli) hli
        replace pr := paired_up (fun t q e => M67.get (hd6.nl e fun _ z => by cases z) e) pr
        have m57 := m56.trans M67
        have lp := Paired.length pr
        have ll : (fineK ns h).length = ns.length := by simp [fineK, tabF]
        refine ⟨(by show 2 ≤ sizeLine; decide), fun T nT => ⟨(by show 1 ≤ sizeLine; decide), fun L nL => ⟨li, L, ts.map V.ref, [.ref T], rfl, rfl, ?_, upd_same, ?_, fun C nC => ⟨C, ts ++ [T], fineK ns h ++ [(keyS a, y)], rfl, ?_, ?_, fun p np => ?_⟩⟩⟩⟩
        · exact same_new nL _ _ (same_new nT _ _ hli)
        · rw [List.length_map]
          show ts.length + 1 ≤ sizeLine
          omega
        · refine SqL.of ?_
          rw [List.map_append]
          exact upd_same
        · have sc := (same_new nL).trans (same_new (o := .lst (ts.map V.ref ++ [.ref T])) nC)
          refine paired_snoc (paired_up (fun t q e => SqT.of (sc _ _ (same_new nT _ _ e))) pr) (SqT.of (sc _ _ upd_same))
        · have sall := ((same_new nT).trans ((same_new nL).trans (same_new nC))).trans (same_new (o := .dK (mergeK [] (fineK ns h ++ [(keyS a, y)]))) np)
          refine kQ _ _ ⟨p, y, rfl, hy.1, hy.2.grow sall, ?_, m57.ofSame sall⟩
          rw [merge_snoc gd]
          exact upd_same
      rintro _ H6 ⟨p3, y, rfl, ny, vy, hp3, m6⟩
      refine st_norm ([some (.ref d), some (.ref nt), some (.ref fd), some (.str a), some (.ref so), some (.str b), some (.ref p1), some (.ref p2), some (.ref p3), none, none]) rfl ?_
      have m06 := m05.trans m6
      have hd6 := m6.dice
      have p3_d := hd6.nl hp3 fun _ z => by cases z
      -- one is left out
      refine a_set (fun v H' => ∃ p kvs, v = .ref p ∧ H' p = some (.dK kvs) ∧ (∀ q ∈ kvs, VO H' q.2) ∧ valV kvs (keyS a) = none ∧ Same H6 H') (fun Q' kQ => ?_) ?_
      · refine ⟨_, rfl, nt, rfl, ⟨_, SqT.of (m06.get nt_d hn)⟩, fun Dl nD => ?_⟩
        refine lc_tup (K := K) (a := nt) (xs := ns.map V.str) (fun i H' => Same H6 H' ∧ ∃ ts : List Addr, H' Dl = some (.lst (ts.map V.ref)) ∧ ts.length ≤ i ∧ Paired (fun t n => H' t = some (.tup [.str n, .str (h n)])) ts ((ns.take i).filter fun n => decide (n ≠ a))) ?_ ?_ ?_ ?_
        · exact ⟨same_new nD, [], upd_same, Nat.le_refl _, .nil⟩
        · rintro i H' _ ⟨s2, _⟩
          exact SqT.of (s2 _ _ (m06.get nt_d hn))
        · rintro i x H' hi ⟨s2, ts, hD, el, pr⟩
          rw [List.getElem?_map] at hi
          obtain ⟨n, hn', rfl⟩ := Option.map_eq_some_iff.mp hi
          refine ⟨rfl, ?_⟩
          have lt := (List.getElem?_eq_some_iff.mp hn').1
          refine ⟨_, rfl, _, rfl, rfl, _, rfl, ite2 (fun q => ?_) (fun q => ?_)⟩
          · have na : n ≠ a := fun e => by
              subst e
              have : (!decide (V.str n = V.str n)) = true := q
              simp at this
            refine ⟨_, rfl, _, rfl, _, rfl, fd, .str (h n), rfl, .inl ⟨_, keyS n, .inl (s2 _ _ (m06.get fd_d hf)), rfl, (fine_get (List.mem_of_getElem? hn')).symm⟩, (by show 2 ≤ sizeLine; decide), fun t nt' => ?_⟩
            have nDt : Dl ≠ t := ne_of_none hD nt'
            have s3 : Same H' (upd H' t (.tup [.str n, .str (h n)])) := same_new nt'
            refine ⟨_, s3 _ _ hD, (by rw [List.length_map]; omega), Same.put (s2.trans s3) nD, ts ++ [t], ?_, ?_, ?_⟩
            · rw [upd_same, List.map_append] <;> rfl
            · rw [List.length_append]
              show ts.length + 1 ≤ i + 1
              omega
            · rw [List.take_add_one, hn', List.filter_append]
              show Paired _ _ (_ ++ List.filter (fun n => decide (n ≠ a)) [n])
              rw [List.filter_cons_of_pos (by simpa using na)]
              have old : ∀ b o, o ≠ .lst (ts.map V.ref) → H' b = some o → (upd (upd H' t (.tup [.str n, .str (h n)])) Dl (.lst (ts.map V.ref ++ [.ref t]))) b = some o := fun b o no e => by
                have nb : b ≠ Dl := fun q => by rw [q, hD] at e; exact no (Option.some.inj e).symm
                rw [upd_ne nb]
                exact s3 _ _ e
              refine paired_snoc (paired_up (fun a b e => old a _ (fun z => by cases z) e) pr) ?_
              rw [upd_ne (Ne.symm nDt)]
              exact upd_same
          · have na : n = a := by
              have : ¬ (!decide (V.str n = V.str a)) = true := q
              simpa using this
            refine ⟨s2, ts, hD, by omega, ?_⟩
            rw [List.take_add_one, hn', List.filter_append]
            show Paired _ _ (_ ++ List.filter (fun n => decide (n ≠ a)) [n])
            rw [List.filter_cons_of_neg (by simpa using na)]
            simpa using pr
        · rintro H7 ⟨s2, ts, hD, el, pr⟩
          rw [List.length_map, List.take_length] at pr
          refine ⟨Dl, ts, tabF (ns.filter fun n => decide (n ≠ a)) id (fun n => .str (h n)), rfl, SqL.of hD, ?_, fun p np => ?_⟩
          · have conv : ∀ {as : List Addr} {bs : List Str}, Paired (fun t n => H7 t = some (.tup [.str n, .str (h n)])) as bs → Paired (fun p (kv : Key × V) => SqT K H7 p [kV kv.1, kv.2]) as (tabF bs id fun n => .str (h n)) := fun p => by
              induction p with
              | nil => exact .nil
              | cons e _ ih => exact .cons (SqT.of e) ih
            exact conv pr
          rw [tab_merge (f := id) (gd.nd.filter _) fun _ _ _ _ e => e]
          refine kQ _ _ ⟨p, _, rfl, upd_same, fun q m => ?_, tab_out (f := id) fun n m e => ?_, s2.trans (same_new np)⟩
          · obtain ⟨n, mn, rfl⟩ := List.mem_map.mp m
            have := (gd.hb n (List.mem_filter.mp mn).1).2.1
            exact .inl ⟨h n, rfl, by omega⟩
          · have := (List.mem_filter.mp m).2
            exact absurd e (of_decide_eq_true this)
      rintro _ H8 ⟨p4, k4, rfl, hp4, vk4, no4, s68⟩
      refine st_norm ([some (.ref d), some (.ref nt), some (.ref fd), some (.str a), some (.ref so), some (.str b), some (.ref p1), some (.ref p2), some (.ref p3), some (.ref p4), none]) rfl ?_
      have m08 := m06.ofSame s68
      have hd8 := (m6.ofSame s68).dice
      have m48 := (m5.trans m6).ofSame s68
      have m58 := m6.ofSame s68
      have hp1' := m48.get p1_d hp1
      have hp2' := m58.get p2_d hp2
      have hp3' := s68 _ _ hp3
      have hso8 := ((((m2.trans m3).trans m4).trans m48).get so_d hso)
      have it8 : ∀ x ∈ xs, Item d H8 ns x := fun x m => (it x m).mv hd1 (((m2.trans m3).trans m4).trans m48)
      refine a_set (fun v H' => ∃ C ys, v = .ref C ∧ C ≠ d ∧ H' C = some (.lst ys) ∧ ys.length = 7 ∧ (∀ x ∈ ys, Item d H' ns x) ∧ Same H8 H') (fun Q' kQ => ?_) ?_
      · refine ⟨_, rfl, ?_⟩
        refine ⟨_, rfl, (by show 2 ≤ sizeLine; decide), fun t1 n1 => ?_⟩
        have c1 := same_new (o := .tup [.ref p1, .bl false]) n1
        have e1 : upd H8 t1 (.tup [.ref p1, .bl false]) t1 = _ := upd_same
        generalize upd H8 t1 (.tup [.ref p1, .bl false]) = G1 at c1 e1 ⊢
        refine ⟨_, rfl, _, rfl, _, rfl, rfl, (by show 2 ≤ sizeLine; decide), fun t2 n2 => ?_⟩
        have c2 := same_new (o := .tup [.ref p2, .bl (decide (V.str a = V.str b))]) n2
        have e2 : upd G1 t2 (.tup [.ref p2, .bl (decide (V.str a = V.str b))]) t2 = _ := upd_same
        generalize upd G1 t2 (.tup [.ref p2, .bl (decide (V.str a = V.str b))]) = G2 at c2 e2 ⊢
        refine ⟨_, rfl, (by show 2 ≤ sizeLine; decide), fun t3 n3 => ?_⟩
        have c3 := same_new (o := .tup [.ref p3, .bl false]) n3
        have e3 : upd G2 t3 (.tup [.ref p3, .bl false]) t3 = _ := upd_same
        generalize upd G2 t3 (.tup [.ref p3, .bl false]) = G3 at c3 e3 ⊢
        refine ⟨_, rfl, (by show 2 ≤ sizeLine; decide), fun t4 n4 => ?_⟩
        have c4 := same_new (o := .tup [.ref p4, .bl false]) n4
        have e4 : upd G3 t4 (.tup [.ref p4, .bl false]) t4 = _ := upd_same
        generalize upd G3 t4 (.tup [.ref p4, .bl false]) = G4 at c4 e4 ⊢
        refine ⟨_, rfl, fd, _, rfl, ((c1.trans c2).trans (c3.trans c4)) _ _ (m08.get fd_d hf), fun G5 li ts c5 nli nts _ hli _ => ⟨(by show 2 ≤ sizeLine; decide), fun t5 n5 => ?_⟩⟩
        have c6 := same_new (o := .tup [.ref li, .bl false]) n5
        have e5 : upd G5 t5 (.tup [.ref li, .bl false]) t5 = _ := upd_same
        generalize upd G5 t5 (.tup [.ref li, .bl false]) = G6 at c6 e5 ⊢
        refine ⟨(by show 5 ≤ sizeLine; decide), fun L nL => ⟨so, L, xs, [.ref t1, .ref t2, .ref t3, .ref t4, .ref t5], rfl, rfl, ?_, upd_same, (by rw [l2]; show 7 ≤ sizeLine; decide), fun C nC => ?_⟩⟩
        · exact same_new nL _ _ (((c1.trans c2).trans (c3.trans c4)).trans (Same.trans c5 c6) _ _ hso8)
        have c7 := (same_new (o := .lst [.ref t1, .ref t2, .ref t3, .ref t4, .ref t5]) nL).trans (same_new (o := .lst (xs ++ [.ref t1, .ref t2, .ref t3, .ref t4, .ref t5])) nC)
        have z6 := c6.trans c7
        have z5 := Same.trans c5 z6
        have z4 := c4.trans z5
        have z3 := c3.trans z4
        have z2 := c2.trans z3
        have z1 := c1.trans z2
        have hd9 := ((Mv.refl hd8).ofSame z1).dice
        have hd5' := ((Mv.refl hd8).ofSame ((c1.trans c2).trans (c3.trans c4))).dice
        refine kQ _ _ ⟨C, _, rfl, ?_, upd_same, ?_, fun x m => ?_, z1⟩
        · exact ((Mv.refl hd8).ofSame (((c1.trans c2).trans (c3.trans c4)).trans ((Same.trans c5 c6).trans (same_new nL)))).dice.ne nC
        · rw [List.length_append, l2] <;> rfl
        · rcases List.mem_append.mp m with m | m
          · exact (it8 x m).mv hd8 ((Mv.refl hd8).ofSame z1)
          · simp only [List.mem_cons, List.not_mem_nil, or_false] at m
            rcases m with rfl | rfl | rfl | rfl | rfl
            · refine ⟨t1, _, _, rfl, z2 _ _ e1, .inl ⟨p1, _, rfl, z1 _ _ hp1', fun q mq => ?_, ?_⟩⟩
              · rcases putK_mem mq with e | mq
                · rw [e]
                  exact .inl ⟨_, rfl, by decide +kernel⟩
                · exact fine_vo gd _ q mq
              · refine (ren_len ?_).symm
                have no : valV (fineK ns h) (keyS "extra") = none := tab_out (f := id) fun n mn e => (gd.nb n mn).2.2.1 e
                rw [putK_new _ no, List.length_append]
                have : (fineK ns h).length = ns.length := by simp [fineK, tabF]
                show (fineK ns h).length + 1 ≠ ns.length
                omega
            · refine ⟨t2, _, _, rfl, z3 _ _ e2, .inl ⟨p2, _, rfl, z1 _ _ hp2', fun q mq => ?_, ?_⟩⟩
              · rcases putK_mem mq with e | mq
                · rw [e]
                  exact .inl ⟨_, rfl, by have := (gd.hb b mb).2.1; omega⟩
                · exact fine_vo gd _ q mq
              · rw [fineK, ren_same gd.nd gd.inj (fun n mn => (gd.hb n mn).1) ma mb]
                simp
            · refine ⟨t3, _, _, rfl, z4 _ _ e3, .inl ⟨p3, _, rfl, z1 _ _ hp3', fun q mq => ?_, ?_⟩⟩
              · rcases putK_mem mq with e | mq
                · rw [e]
                  exact (vy.grow s68).grow z1
                · exact fine_vo gd _ q mq
              · rw [fineK, ren_put_bad ma ny]
            · refine ⟨t4, _, _, rfl, z5 _ _ e4, .inl ⟨p4, _, rfl, z1 _ _ hp4, fun q mq => (vk4 q mq).grow z1, ?_⟩⟩
              rw [ren_none ma no4]
            · exact ⟨t5, _, _, rfl, c7 _ _ e5, .inr ⟨rfl, .inr (.inl ⟨li, _, rfl, hd5'.ne nli, z6 _ _ hli⟩)⟩⟩
      rintro _ H9 ⟨C, ys, rfl, C_d, hC, l7, it9, s89⟩
      refine st_norm ([some (.ref d), some (.ref nt), some (.ref fd), some (.str a), some (.ref C), some (.str b), some (.ref p1), some (.ref p2), some (.ref p3), some (.ref p4), none]) rfl ?_
      have m09 := m08.ofSame s89
      have hd9 := ((Mv.refl hd8).ofSame s89).dice
      refine ⟨_, rfl, _, rfl, _, rfl, nt, _, rfl, .inr ⟨SqT.of (m09.get nt_d hn), (by show 2 ≤ sizeLine; decide), fun t1 n1 => ?_⟩⟩
      have c1 := same_new (o := .tup [.ref nt, .bl false]) n1
      have e1 : upd H9 t1 (.tup [.ref nt, .bl false]) t1 = _ := upd_same
      generalize upd H9 t1 (.tup [.ref nt, .bl false]) = G1 at c1 e1 ⊢
      refine ⟨(by show 2 ≤ sizeLine; decide), fun t2 n2 => ?_⟩
      have c2 := same_new (o := .tup [.non, .bl false]) n2
      have e2 : upd G1 t2 (.tup [.non, .bl false]) t2 = _ := upd_same
      generalize upd G1 t2 (.tup [.non, .bl false]) = G2 at c2 e2 ⊢
      intro e ne
      have c3 := same_new (o := .dK []) ne
      have e3 : upd G2 e (.dK []) e = _ := upd_same
      generalize upd G2 e (.dK []) = G3 at c3 e3 ⊢
      refine ⟨(by show 2 ≤ sizeLine; decide), fun t4 n4 => ?_⟩
      have c4 := same_new (o := .tup [.ref e, .bl false]) n4
      have e4 : upd G3 t4 (.tup [.ref e, .bl false]) t4 = _ := upd_same
      generalize upd G3 t4 (.tup [.ref e, .bl false]) = G4 at c4 e4 ⊢
      refine ⟨(by show 3 ≤ sizeLine; decide), fun L nL => ⟨C, L, ys, [.ref t1, .ref t2, .ref t4], rfl, rfl, ?_, upd_same, (by rw [l7]; show 10 ≤ sizeLine; decide), fun C2 nC2 => ?_⟩⟩
      · exact same_new nL _ _ (((c1.trans c2).trans (c3.trans c4)) _ _ hC)
      have z5 := (same_new (o := .lst [.ref t1, .ref t2, .ref t4]) nL).trans (same_new (o := .lst (ys ++ [.ref t1, .ref t2, .ref t4])) nC2)
      have z4 := c4.trans z5
      have z3 := c3.trans z4
      have z2 := c2.trans z3
      have z1 := c1.trans z2
      have M1 := (Mv.refl hd9).ofSame z1
      have itE : ∀ x ∈ ys ++ [.ref t1, .ref t2, .ref t4], Item d (upd (upd G4 L (.lst [.ref t1, .ref t2, .ref t4])) C2 (.lst (ys ++ [.ref t1, .ref t2, .ref t4]))) ns x := fun x m => by
        rcases List.mem_append.mp m with m | m
        · exact (it9 x m).mv hd9 M1
        · simp only [List.mem_cons, List.not_mem_nil, or_false] at m
          rcases m with rfl | rfl | rfl
          · exact ⟨t1, _, _, rfl, z2 _ _ e1, .inr ⟨rfl, .inr (.inr ⟨nt, _, rfl, z1 _ _ (m09.get nt_d hn)⟩)⟩⟩
          · exact ⟨t2, _, _, rfl, z3 _ _ e2, .inr ⟨rfl, .inl rfl⟩⟩
          · exact ⟨t4, _, _, rfl, z5 _ _ e4, .inl ⟨e, [], rfl, z4 _ _ e3, (fun _ m => nomatch m), (ren_len (by have := gd.pos; show 0 ≠ ns.length; omega)).symm⟩⟩
      refine ⟨d, C2, _, rfl, M1.dice, SqL.of upd_same, (((Mv.refl hd9).ofSame (((c1.trans c2).trans (c3.trans c4)).trans (same_new nL))).dice).ne nC2, (by rw [List.length_append]; show 0 < _ + 3; omega), (by rw [List.length_append, l7]; show 10 ≤ 1000; decide), fun i x H' hi m _ => ?_⟩
      exact k x H' ((m09.trans M1).trans m) ((itE x (List.mem_of_getElem? hi)).mv M1.dice m)
end
end G

set_option Elab.async false
set_option linter.all false
set_option maxRecDepth 100000
set_option maxHeartbeats 4000000
namespace G
open PySem PySem.Spec PyProof.Rows L2 C8
/-! ## `_law_right` -/
def spRight : Sp := fun vs H Q _ => ∃ (d : Addr), vs = [.ref d] ∧ DiceAt H d ∧ ∀ H', Mv d H H' → Q (.bl true) H'
def poolS : List Str := ["a", "b", "ab", "zzzzzzzz", "m", "s", "end", "first"]
def tail2 : List Str := ["x", "y", "unlikely"]
def pool2 : List Str := poolS ++ tail2
theorem pool_ok : poolS.all (fun n => nameB n && (decide (n.length ≤ 10) && (decide (n ≠ ("extra" : Str)) && PyData.strOk n))) = true := by decide +kernel
theorem pool2_ok : pool2.all (fun n => nameB n && (decide (n.length ≤ 10) && PyData.strOk n)) = true := by decide +kernel
theorem pool_nd : poolS.Nodup := by decide +kernel
theorem pool2_nd : pool2.Nodup := by decide +kernel
theorem cut_take {xs : List V} {i : Int} (h : 0 ≤ i) : cutV xs none (some i) = xs.take i.toNat := by
  unfold cutV HT.sIx
  simp only [Option.getD_none]
  have : ¬ i < 0 := by omega
  simp [this]
/-- one pair more in a comprehension of pairs -/
theorem pair_step {H0 H' : Hp} {Dl t : Addr} {ts : List Addr} {ns : List Str} {i : Nat} {n : Str} (s2 : Same H0 H') (hD : H' Dl = some (.lst (ts.map V.ref))) (nD : H0 Dl = none) (el : ts.length = i) (lt : i < ns.length) (n8 : ns.length ≤ 8) (f g : Str → V)
    (pr : Paired (fun t n => H' t = some (.tup [f n, g n])) ts (ns.take i)) (hn : ns[i]? = some n) (nt : H' t = none) :
    ∃ acc, (upd H' t (.tup [f n, g n])) Dl = some (.lst acc) ∧ acc.length < sizeLine ∧ (Same H0 (upd (upd H' t (.tup [f n, g n])) Dl (.lst (acc ++ [.ref t]))) ∧
      ∃ ts' : List Addr, (upd (upd H' t (.tup [f n, g n])) Dl (.lst (acc ++ [.ref t]))) Dl = some (.lst (ts'.map V.ref)) ∧ ts'.length = i + 1 ∧ Paired (fun u m => (upd (upd H' t (.tup [f n, g n])) Dl (.lst (acc ++ [.ref t]))) u = some (.tup [f m, g m])) ts' (ns.take (i + 1))) := by
  have sz : sizeLine = 16777216 := sizeLine_eq
  have nDt : Dl ≠ t := ne_of_none hD nt
  have s3 : Same H' (upd H' t (.tup [f n, g n])) := same_new nt
  refine ⟨_, s3 _ _ hD, (by rw [List.length_map, el]; omega), Same.put (s2.trans s3) nD, ts ++ [t], ?_, ?_, ?_⟩
  · rw [upd_same, List.map_append] <;> rfl
  · rw [List.length_append, el] <;> rfl
  · rw [List.take_add_one, hn]
    have old : ∀ b o, o ≠ .lst (ts.map V.ref) → H' b = some o → (upd (upd H' t (.tup [f n, g n])) Dl (.lst (ts.map V.ref ++ [.ref t]))) b = some o := fun b o no e => by
      have nb : b ≠ Dl := fun q => by rw [q, hD] at e; exact no (Option.some.inj e).symm
      rw [upd_ne nb]
      exact s3 _ _ e
    refine paired_snoc (paired_up (fun a b e => old a _ (fun z => by cases z) e) pr) ?_
    rw [upd_ne (Ne.symm nDt)]
    exact upd_same
theorem tab_pairs {K : PySem.W.Frag} {H : Hp} {f : Str → Str} {g : Str → V} : ∀ {as : List Addr} {bs : List Str}, Paired (fun t n => H t = some (.tup [V.str (f n), g n])) as bs → Paired (fun p (kv : Key × V) => SqT K H p [kV kv.1, kv.2]) as (tabF bs f g)
  | _, _, .nil => .nil
  | _, _, .cons e p => .cons (SqT.of e) (tab_pairs p)
theorem ren_rev {ns : List Str} {h : Str → Str} (gd : Gd ns h) : renB (ns.map h) (tabF ns h fun n => .str n) = true := by
  have ex : ∀ m : Str, ∃ n, m ∈ ns.map h → n ∈ ns ∧ h n = m := fun m => by
    by_cases mm : m ∈ ns.map h
    · obtain ⟨n, a, b⟩ := List.mem_map.mp mm
      exact ⟨n, fun _ => ⟨a, b⟩⟩
    · exact ⟨m, fun z => absurd z mm⟩
  obtain ⟨k, hk⟩ : ∃ k : Str → Str, ∀ m, m ∈ ns.map h → k m ∈ ns ∧ h (k m) = m := ⟨fun m => (ex m).choose, fun m => (ex m).choose_spec⟩
  have at_ : ∀ m ∈ ns.map h, valV (tabF ns h fun n => .str n) (keyS m) = some (.str (k m)) := fun m mm => by
    have := tab_in (g := fun n => V.str n) gd.inj (hk m mm).1
    rwa [(hk m mm).2] at this
  rw [ren_of (nodup_map gd.nd gd.inj) (by simp [tabF]) at_ fun m mm => (gd.nb _ (hk m mm).1).1]
  refine decide_eq_true (nodup_map (nodup_map gd.nd gd.inj) fun a ha b hb e => ?_)
  rw [← (hk a ha).2, ← (hk b hb).2, e]
theorem diff_new {ns : List Str} {h : Str → Str} (gd : Gd ns h) : diffB ((ns.map h).map V.str) = true := by
  unfold diffB
  rw [decide_eq_true (nodup_str.mpr (nodup_map gd.nd gd.inj)), Bool.and_true]
  exact List.all_eq_true.mpr fun z m => by
    obtain ⟨y, my, rfl⟩ := List.mem_map.mp m
    obtain ⟨n, mn, rfl⟩ := List.mem_map.mp my
    exact (gd.hb n mn).1
theorem Due.told {K : PySem.W.Frag} {d : Addr} {H : Hp} {ns : List Str} {v : V} {b : Bool} {Q : VK} (du : Due d H ns v b) (k : ∀ H', Same H H' → Q (.bl b) H') :
    (∃ a kvs, v = .ref a ∧ H a = some (.dK kvs) ∧ (∀ q ∈ kvs, VO H q.2) ∧ ∀ H', Same H H' → Q (.bl (renB ns kvs)) H') ∨ (∃ n, (∀ H', Same H H' → TyX K H' v (.type n)) ∧ kitB n "dict" = some false ∧ ∀ H', Same H H' → Q (.bl false) H') := by
  rcases du with ⟨a, kvs, e, ha, hv, eb⟩ | ⟨eb, h⟩
  · exact .inl ⟨a, kvs, e, ha, hv, eb ▸ k⟩
  · subst eb
    rcases h with rfl | ⟨a, xs, rfl, _, ha⟩ | ⟨a, xs, rfl, ha⟩
    · exact .inr ⟨_, fun _ _ => .base .non, by decide +kernel, k⟩
    · exact .inr ⟨_, fun _ s => .base (.lst (s _ _ ha)), by decide +kernel, k⟩
    · exact .inr ⟨_, fun _ s => .base (.tup (s _ _ ha)), by decide +kernel, k⟩
theorem told_due {K : PySem.W.Frag} {CI : Addr} {d p : Addr} {H : Hp} {ns : List Str} {h : Str → Str} {v : V} {b : Bool} {Q : VK} (gd : Gd ns h) (hn : H p = some (.tup (ns.map V.str))) (du : Due d H ns v b) (k : ∀ H', Same H H' → Q (.bl b) H') : spTold K CI [.ref p, v] H Q L2.E0 :=
  ⟨.ref p, v, rfl, .inl ⟨p, ns, rfl, SqT.of hn, by have := gd.few; omega, fun n m => by have := (gd.nb n m).2.1; omega, gd.diff, du.told k⟩⟩
/-- what is no tuple of different names; d: the dice -/
def BadN (d : Addr) (H : Hp) (x : V) : Prop := (∃ p zs, x = .ref p ∧ H p = some (.tup zs) ∧ zs.length ≤ 900 ∧ (∀ z ∈ zs, VO H z) ∧ diffB zs = false) ∨ x = .non ∨ (∃ s, x = .str s) ∨ (∃ i, x = .int i) ∨ (∃ a xs, x = .ref a ∧ a ≠ d ∧ H a = some (.lst xs)) ∨ ∃ a kvs, x = .ref a ∧ H a = some (.dK kvs)
theorem BadN.mv {d : Addr} {H H' : Hp} {x : V} (hd : DiceAt H d) (m : Mv d H H') (b : BadN d H x) : BadN d H' x := by
  rcases b with ⟨p, zs, e, hp, l, vo, df⟩ | e | e | e | ⟨a, xs, e, n, ha⟩ | ⟨a, kvs, e, ha⟩
  · exact .inl ⟨p, zs, e, m.get (hd.nl hp fun _ z => by cases z) hp, l, fun z mz => (vo z mz).mv hd m, df⟩
  · exact .inr (.inl e)
  · exact .inr (.inr (.inl e))
  · exact .inr (.inr (.inr (.inl e)))
  · exact .inr (.inr (.inr (.inr (.inl ⟨a, xs, e, n, m.get n ha⟩))))
  · exact .inr (.inr (.inr (.inr (.inr ⟨a, kvs, e, m.get (hd.nl ha fun _ z => by cases z) ha⟩))))
theorem BadN.told {K : PySem.W.Frag} {CI : Addr} {d : Addr} {H : Hp} {x v : V} {Q : VK} (b : BadN d H x) (k : ∀ H', Same H H' → Q (.str "operation") H') : spTold K CI [x, v] H Q L2.E0 := by
  refine ⟨x, v, rfl, .inr ⟨?_, k⟩⟩
  rcases b with ⟨p, zs, e, hp, l, vo, df⟩ | rfl | ⟨s, rfl⟩ | ⟨i, rfl⟩ | ⟨a, xs, rfl, n, ha⟩ | ⟨a, kvs, rfl, ha⟩
  · exact .inl ⟨p, zs, e, SqT.of hp, l, vo, df⟩
  · exact .inr ⟨_, .base .non, by decide +kernel⟩
  · exact .inr ⟨_, .base (.str s), by decide +kernel⟩
  · exact .inr ⟨_, .base (.int i), by decide +kernel⟩
  · exact .inr ⟨_, .base (.lst ha), by decide +kernel⟩
  · exact .inr ⟨_, .base (.dK ha), by decide +kernel⟩
theorem bad_more {zs : List V} {z : V} (b : nameV z = false) : diffB (zs ++ [z]) = false := by
  unfold diffB
  rw [show (zs ++ [z]).all nameV = false from List.all_eq_false.mpr ⟨z, by simp, by rw [b]; exact Bool.false_ne_true⟩, Bool.false_and]
theorem bad_twice {zs : List V} (n : zs ≠ []) : diffB (zs ++ zs.take 1) = false := by
  unfold diffB
  cases zs with
  | nil => exact absurd rfl n
  | cons z r =>
    rw [show decide ((z :: r) ++ (z :: r).take 1).Nodup = false from decide_eq_false fun q => by simp at q, Bool.and_false]
theorem zip_fun : ∀ {ns es : List Str}, ns.Nodup → ns.length ≤ es.length → ∃ h : Str → Str, ns.zip es = ns.map (fun n => (n, h n)) ∧ ns.map h = es.take ns.length
  | [], _, _, _ => ⟨id, rfl, rfl⟩
  | x :: ns, [], _, l => by simp at l
  | x :: ns, e :: es, nd, l => by
    rw [List.nodup_cons] at nd
    obtain ⟨h, h1, h2⟩ := zip_fun (ns := ns) (es := es) nd.2 (by simpa using l)
    have ag : ∀ n ∈ ns, (if n = x then e else h n) = h n := fun n m => if_neg fun q => nd.1 (by rw [← q]; exact m)
    refine ⟨fun n => if n = x then e else h n, ?_, ?_⟩
    · rw [List.zip_cons_cons, List.map_cons, h1]
      show _ = (x, if x = x then e else h x) :: _
      rw [if_pos rfl]
      congr 1
      exact List.map_congr_left fun n m => by
        show _ = (n, if n = x then e else h n)
        rw [ag n m]
    · rw [List.map_cons]
      show (if x = x then e else h x) :: _ = _
      rw [if_pos rfl, List.length_cons, List.take_succ_cons, ← h2]
      congr 1
      exact List.map_congr_left fun n m => ag n m
section
variable {P : Program} {w : World} {K : PySem.W.Frag} {mg : Str → Option Value} {base : Heap} {CI : Addr}
theorem c_right (T : Txt K mg) (C__law_roll : CalG P w K mg base 1 "_law_roll" ["_law_dice_here", "_law_total"] spRoll) (C__law_pick : CalG P w K mg base 2 "_law_pick" ["_law_dice_here", "_law_items"] (spPick K))
    (C__law_mixed : CalG P w K mg base 2 "_law_mixed" ["_law_dice_here", "_law_items"] spMix) (C__law_told : CalG P w K mg base 6 "_law_told" ["_law_names", "_law_value"] (spTold K CI))
    (C__law_near : CalG P w K mg base 4 "_law_near" ["_law_dice_here", "_law_names", "_law_fine"] (spNear K)) (D : DefAt K mg "_law_right" s__law_right ["_law_dice_here"]) :
    CalG P w K mg base 8 "_law_right" ["_law_dice_here"] spRight := by
  refine calOk D sc__law_right (fun xs H Q E h => ?_) (fun f cdv A out s H xs Q E hgd hr h => ?_)
  · obtain ⟨d, rfl, _⟩ := h
    rfl
  · obtain ⟨d, rfl, hd, k⟩ := h
    have nd := sc__law_right.nd
    refine ⟨_, (pss_cons (ps_set (i := 1) nd rfl (.inl rfl) (pe_lst (pa_cons pe_str (pa_cons pe_str (pa_cons pe_str (pa_cons pe_str (pa_cons pe_str (pa_cons pe_str (pa_cons pe_str (pa_cons pe_str pa_nil))))))))))
      (pss_cons (ps_set (i := 2) nd rfl (.inl rfl) (pe_callTy call_tuple_of (by rfl) T.tuple (by decide +kernel) (pa_cons (pe_slice sl_list (pe_k C__law_mixed hgd hr (by decide) rfl (pa_cons (pv 0) (pa_cons (pv 1) pa_nil))) po_none (po_some (pe_op op_add pe_int (pe_k C__law_roll hgd hr (by decide) rfl (pa_cons (pv 0) (pa_cons pe_int pa_nil)))))) pa_nil)))
      (pss_cons (ps_set (i := 3) nd rfl (.inr rfl) (pe_callTy (call_dictP rfl) (by rfl) T.dict (by decide +kernel) (pa_cons (DZ.pe_listZip rfl (by rfl) T.list (by decide +kernel) (by rfl) T.zip (by decide +kernel) (pv 2) (pe_k C__law_mixed hgd hr (by decide) rfl (pa_cons (pv 0) (pa_cons (pe_op op_cat (pv 1) (pe_lst (pa_cons pe_str (pa_cons pe_str (pa_cons pe_str pa_nil))))) pa_nil)))) pa_nil)))
      (pss_cons (ps_for PassesOwn.never rfl (pi_range1 rfl T.range (pa_cons pe_int pa_nil)) (pg_name (i := 4) nd rfl (.inl rfl)) (pss_cons (ps_asg (pe_k C__law_near hgd hr (by decide) rfl (pa_cons (pv 0) (pa_cons (pv 2) (pa_cons (pv 3) pa_nil)))) (pg_tup (by rfl) (pgs_cons (pg_name (i := 5) nd rfl (.inl rfl)) (pgs_cons (pg_name (i := 6) nd rfl (.inl rfl)) pgs_nil))))
        (pss_one (ps_if (pt_cmpR op_ne (pe_callB (call_repr hgd hr.units) (by rfl) T.repr (by decide +kernel) (pa_cons (pe_k C__law_told hgd hr (by decide) rfl (pa_cons (pv 2) (pa_cons (pv 5) pa_nil))) pa_nil)) (pe_callB (call_repr hgd hr.units) (by rfl) T.repr (by decide +kernel) (pa_cons (pv 6) pa_nil)) (nomark _)) (pss_one (ps_ret pe_bl)) pss_nil))))
      (pss_cons (ps_set (i := 7) nd rfl (.inl rfl) (pe_callTy (call_dictP rfl) (by rfl) T.dict (by decide +kernel) (pa_cons (pe_lc (own := [("_law_name", 11)]) (g := gName 11) (by rfl) nd (pi_tup (pv 2)) (blkOk_by (own := [("_law_name", 11)]) (N := N__law_right) (sc := defScope s__law_right) (by decide +kernel)) (fun _ _ _ _ _ => pg_name (i := 11) nd rfl (.inl rfl)) (fun _ _ _ _ _ => pts_nil) (fun _ _ _ _ _ => pe_tup (pa_cons (pe_dget (hu_of hr) (pv 3) (pv 11) (fun _ _ => rfl)) (pa_cons (pv 11) pa_nil)))) pa_nil)))
      (pss_cons (ps_if (PW.pt (pw_or (pt_cmpR op_notBl (pe_k C__law_told hgd hr (by decide) rfl (pa_cons (pe_callTy (DZ.cr_tupX rfl) (by rfl) T.tuple (by decide +kernel) (pa_cons (pv 7) pa_nil)) (pa_cons (pv 7) pa_nil))) pe_bl (nomark _)) (pw_or1 (pt_cmpR op_notBl (pe_k C__law_told hgd hr (by decide) rfl (pa_cons (pe_callTy (DZ.cr_tupX rfl) (by rfl) T.tuple (by decide +kernel) (pa_cons (DZ.pe_vals (pv 3)) pa_nil)) (pa_cons (pv 7) pa_nil))) pe_bl (nomark _))))) (pss_one (ps_ret pe_bl)) pss_nil)
      (pss_cons (ps_set (i := 8) nd rfl (.inr rfl) (pe_callTy (call_dictP rfl) (by rfl) T.dict (by decide +kernel) (pa_cons (DZ.pe_listZip rfl (by rfl) T.list (by decide +kernel) (by rfl) T.zip (by decide +kernel) (DZ.pe_vals (pv 3)) (pe_k C__law_mixed hgd hr (by decide) rfl (pa_cons (pv 0) (pa_cons (pv 1) pa_nil)))) pa_nil)))
      (pss_cons (ps_set (i := 9) nd rfl (.inl rfl) (pe_callTy (call_dictP rfl) (by rfl) T.dict (by decide +kernel) (pa_cons (pe_lc (own := [("_law_name", 11)]) (g := gName 11) (by rfl) nd (pi_tup (pv 2)) (blkOk_by (own := [("_law_name", 11)]) (N := N__law_right) (sc := defScope s__law_right) (by decide +kernel)) (fun _ _ _ _ _ => pg_name (i := 11) nd rfl (.inl rfl)) (fun _ _ _ _ _ => pts_nil) (fun _ _ _ _ _ => pe_tup (pa_cons (pv 11) (pa_cons (pe_dget (hu_of hr) (pv 8) (pe_dget (hu_of hr) (pv 3) (pv 11) (fun _ _ => rfl)) (fun _ _ => rfl)) pa_nil)))) pa_nil)))
      (pss_cons (ps_if (pt_cmpR op_notBl (pe_k C__law_told hgd hr (by decide) rfl (pa_cons (pv 2) (pa_cons (pv 9) pa_nil))) pe_bl (nomark _)) (pss_one (ps_ret pe_bl)) pss_nil)
      (pss_cons (ps_set (i := 10) nd rfl (.inl rfl) (pe_lst (pa_cons pe_non (pa_cons (pe_callTy call_list_of (by rfl) T.list (by decide +kernel) (pa_cons (pv 2) pa_nil)) (pa_cons (pe_op op_catT (pv 2) (pe_slice sl_tupA (pv 2) po_none (po_some pe_int))) (pa_cons (pe_op op_catT (pv 2) (pe_tup (pa_cons pe_str pa_nil))) (pa_cons pe_str (pa_cons pe_dnewK (pa_cons (pe_op op_catT (pv 2) (pe_tup (pa_cons pe_non pa_nil))) (pa_cons pe_int (pa_cons (pe_tup (pa_cons (pv 2) pa_nil)) pa_nil)))))))))))
      (pss_one (ps_ret (pe_cmpR (op_eqD hr.units) (pe_k C__law_told hgd hr (by decide) rfl (pa_cons (pe_k C__law_pick hgd hr (by decide) rfl (pa_cons (pv 0) (pa_cons (pv 10) pa_nil))) (pa_cons (pv 3) pa_nil))) pe_str (nomark _)))))))))))))), ?_⟩
    refine a_set (fun v H' => ∃ pl, v = .ref pl ∧ H pl = none ∧ H' pl = some (.lst (poolS.map V.str)) ∧ Mv d H H') (fun Q' kQ => ?_) ?_
    · exact ⟨(by show 8 ≤ sizeLine; decide), fun pl npl => kQ _ _ ⟨pl, rfl, npl, upd_same, (Mv.refl hd).new npl⟩⟩
    rintro _ H1 ⟨pl, rfl, npl, hpl, m1⟩
    have hd1 := m1.dice
    have pl_d := hd.ne npl
    refine st_norm ([some (.ref d), some (.ref pl), none, none, none, none, none, none, none, none, none, none]) rfl ?_
    refine a_set (fun v H' => ∃ (nt : Addr) (ns : List Str), v = .ref nt ∧ H' nt = some (.tup (ns.map V.str)) ∧ Mv d H1 H' ∧ ns.Nodup ∧ 1 ≤ ns.length ∧ ns.length ≤ 8 ∧ ∀ n ∈ ns, n ∈ poolS) (fun Q' kQ => ?_) ?_
    · refine ⟨_, rfl, _, rfl, d, pl, poolS, rfl, hd1, pl_d, hpl, (by decide), fun q es H2 m2 nq hq pm => ?_⟩
      refine ⟨_, rfl, d, _, rfl, m2.dice, (by decide), (by decide), fun r H3 r0 r1 m3 _ => ⟨_, _, rfl, rfl, _, rfl, q, _, rfl, SqL.of (m3.get (hd1.ne nq) hq), fun p np => ⟨p, _, rfl, .inl ⟨SqL.of upd_same, fun nt nnt => ?_⟩⟩⟩⟩
      rw [cut_take (by omega), ← List.map_take] at nnt ⊢
      have le := pm.length_eq
      have l8 : poolS.length = 8 := rfl
      refine kQ _ _ ⟨nt, _, rfl, upd_same, ((m2.trans m3).new np).new nnt, ?_, ?_, ?_, fun n m => pm.mem_iff.mp (List.mem_of_mem_take m)⟩
      · exact (pm.nodup_iff.mpr pool_nd).sublist (List.take_sublist _ _)
      · rw [List.length_take]; omega
      · rw [List.length_take]; omega
    rintro _ H2 ⟨nt, ns, rfl, hn, m2, nns, n1, n8, np⟩
    have hd2 := m2.dice
    have nt_d := hd2.nl hn fun _ z => by cases z
    have hpl2 := m2.get pl_d hpl
    refine st_norm ([some (.ref d), some (.ref pl), some (.ref nt), none, none, none, none, none, none, none, none, none]) rfl ?_
    refine a_set (fun v H' => ∃ (fd : Addr) (h : Str → Str), v = .ref fd ∧ H' fd = some (.dK (fineK ns h)) ∧ Gd ns h ∧ Mv d H2 H') (fun Q' kQ => ?_) ?_
    · refine ⟨_, rfl, _, rfl, _, rfl, (by show 3 ≤ sizeLine; decide), fun L nL => ⟨pl, L, _, _, rfl, rfl, same_new nL _ _ hpl2, upd_same, (by show 8 + 3 ≤ sizeLine; decide), fun C nC => ?_⟩⟩
      have sLC := (same_new (H := H2) (o := .lst (tail2.map V.str)) nL).trans (same_new (o := .lst (pool2.map V.str)) nC)
      have mLC := (Mv.refl hd2).ofSame sLC
      refine ⟨d, C, pool2, rfl, mLC.dice, ((Mv.refl hd2).new (o := .lst (tail2.map V.str)) nL).dice.ne nC, upd_same, (by decide), fun q es H3 m3 nq hq pm => ?_⟩
      have m23 := mLC.trans m3
      refine ⟨ns.map V.str, es.map V.str, ⟨nt, rfl, .inr (.inl (SqT.of (m23.get nt_d hn)))⟩, ⟨q, rfl, .inl (SqL.of hq)⟩, fun H4 lp ts old nlp nts _ hlp pr => ?_⟩
      have le := pm.length_eq
      have l11 : pool2.length = 11 := rfl
      obtain ⟨h, e1, e2⟩ := zip_fun (ns := ns) (es := es) nns (by omega)
      have ez : (ns.map V.str).zip (es.map V.str) = ns.map fun n => (V.str n, V.str (h n)) := by
        rw [List.zip_map, e1, List.map_map]
        rfl
      rw [ez] at pr
      have hin : ∀ n ∈ ns, h n ∈ pool2 := fun n m => pm.mem_iff.mp (List.mem_of_mem_take (e2 ▸ List.mem_map.mpr ⟨n, m, rfl⟩))
      have gd : Gd ns h := by
        refine ⟨nns, inj_of (by rw [e2]; exact (pm.nodup_iff.mpr pool2_nd).sublist (List.take_sublist _ _)), n1, n8, fun n m => ?_, fun n m => ?_⟩
        · have := List.all_eq_true.mp pool_ok n (np n m)
          simpa using this
        · have := List.all_eq_true.mp pool2_ok (h n) (hin n m)
          simpa using this
      refine ⟨lp, ts, fineK ns h, rfl, SqL.of hlp, ?_, fun fd nfd => ?_⟩
      · have conv : ∀ {as : List Addr} {bs : List Str}, Paired (fun t q => H4 t = some (.tup [q.1, q.2])) as (bs.map fun n => (V.str n, V.str (h n))) → Paired (fun p (kv : Key × V) => SqT K H4 p [kV kv.1, kv.2]) as (fineK bs h) := fun {as bs} p => by
          induction bs generalizing as with
          | nil => cases p; exact .nil
          | cons b bs ih => cases p with | cons e p => exact .cons (SqT.of e) (ih p)
        exact conv pr
      · rw [show mergeK [] (fineK ns h) = fineK ns h from tab_merge (f := id) gd.nd fun _ _ _ _ e => e]
        exact kQ _ _ ⟨fd, h, rfl, upd_same, gd, (m23.ofSame old).ofSame (same_new nfd)⟩
    rintro _ H3 ⟨fd, h, rfl, hf, gd, m3⟩
    have hd3 := m3.dice
    have fd_d := hd3.nl hf fun _ z => by cases z
    have hn3 := m3.get nt_d hn
    have hpl3 := m3.get pl_d hpl2
    have m03 := (m1.trans m2).trans m3
    refine st_norm ([some (.ref d), some (.ref pl), some (.ref nt), some (.ref fd), none, none, none, none, none, none, none, none]) rfl ?_
    refine ⟨6, rfl, by decide, by decide, for_range (fun j σ H' => ∃ w4 w5 w6, σ = [some (.ref d), some (.ref pl), some (.ref nt), some (.ref fd), w4, w5, w6, none, none, none, none, none] ∧ Mv d H3 H') ?_ ?_ ?_⟩
    · exact ⟨_, _, _, rfl, Mv.refl hd3⟩
    · rintro j σ H4 hj ⟨w4, w5, w6, rfl, m4⟩
      refine ⟨_, rfl, _, rfl, _, rfl, d, nt, fd, ns, h, rfl, m4.dice, m4.get nt_d hn3, m4.get fd_d hf, gd, fun x H5 m5 it => ?_⟩
      obtain ⟨t, v, b, rfl, ht, du⟩ := it
      refine ⟨t, _, rfl, SqT.of ht, rfl, _, _, rfl, _, _, rfl, rfl, ?_⟩
      have hn5 := (m4.trans m5).get nt_d hn3
      dsimp only
      refine a_if1 (fun b' H' => b' = false ∧ Mv d H5 H') (fun Q' kQ => ?_) (fun _ h => nomatch h.1) (fun H6 h => ⟨_, _, _, rfl, (m4.trans m5).trans h.2⟩)
      refine ⟨_, rfl, _, rfl, told_due gd hn5 du fun H6 s6 => ?_⟩
      have sh : Shw (.bool b) := shw rfl (by simp [PyData.depth]) (by show PyData.bulk (.bool b) ≤ 10000; simp [PyData.bulk])
      exact ⟨.bl b, .bool b, rfl, Dx.dp (.bl b) rfl, sh, _, rfl, .bl b, .bool b, rfl, Dx.dp (.bl b) rfl, sh, rfl, _, rfl, kQ _ _ ⟨by simp, (Mv.refl m5.dice).ofSame s6⟩⟩
    rintro σ H4 ⟨w4, w5, w6, rfl, m4⟩
    have hd4 := m4.dice
    have hn4 := m4.get nt_d hn3
    have hf4 := m4.get fd_d hf
    have hpl4 := m4.get pl_d hpl3
    have m04 := m03.trans m4
    refine st_norm ([some (.ref d), some (.ref pl), some (.ref nt), some (.ref fd), w4, w5, w6, none, none, none, none, none]) rfl ?_
    refine go_nx ?_
    -- the reverse
    refine a_set (fun v H' => ∃ bk, v = .ref bk ∧ H' bk = some (.dK (tabF ns h fun n => .str n)) ∧ Same H4 H') (fun Q' kQ => ?_) ?_
    · refine ⟨_, rfl, nt, rfl, ⟨_, SqT.of hn4⟩, fun Dl nD => ?_⟩
      refine lc_tup (K := K) (a := nt) (xs := ns.map V.str) (fun i H' => Same H4 H' ∧ ∃ ts : List Addr, H' Dl = some (.lst (ts.map V.ref)) ∧ ts.length = i ∧ Paired (fun t n => H' t = some (.tup [.str (h n), .str n])) ts (ns.take i)) ?_ ?_ ?_ ?_
      · exact ⟨same_new nD, [], upd_same, rfl, .nil⟩
      · rintro i H' _ ⟨s2, _⟩
        exact SqT.of (s2 _ _ hn4)
      · rintro i x H' hi ⟨s2, ts, hD, el, pr⟩
        rw [List.getElem?_map] at hi
        obtain ⟨n, hn', rfl⟩ := Option.map_eq_some_iff.mp hi
        refine ⟨rfl, ?_⟩
        refine ⟨_, rfl, _, rfl, fd, .str (h n), rfl, .inl ⟨_, keyS n, .inl (s2 _ _ hf4), rfl, (fine_get (List.mem_of_getElem? hn')).symm⟩, _, rfl, (by show 2 ≤ sizeLine; decide), fun t nt' => ?_⟩
        exact pair_step s2 hD nD el (List.getElem?_eq_some_iff.mp hn').1 n8 (fun n => .str (h n)) (fun n => .str n) pr hn' nt'
      · rintro H5 ⟨s2, ts, hD, el, pr⟩
        rw [List.length_map, List.take_length] at pr
        refine ⟨Dl, ts, tabF ns h (fun n => .str n), rfl, SqL.of hD, tab_pairs pr, fun bk nbk => ?_⟩
        rw [tab_merge gd.nd gd.inj]
        exact kQ _ _ ⟨bk, rfl, upd_same, s2.trans (same_new nbk)⟩
    rintro _ H5 ⟨bk, rfl, hbk, s45⟩
    have hd5 := ((Mv.refl hd4).ofSame s45).dice
    have hn5 := s45 _ _ hn4
    have hf5 := s45 _ _ hf4
    have hpl5 := s45 _ _ hpl4
    have m05 := m04.ofSame s45
    refine st_norm ([some (.ref d), some (.ref pl), some (.ref nt), some (.ref fd), w4, w5, w6, some (.ref bk), none, none, none, none]) rfl ?_
    have goodT : ∀ {H' : Hp} {p : Addr} {Q : VK}, Same H5 H' → H' p = some (.tup ((ns.map h).map V.str)) → (∀ H2, Same H' H2 → Q (.bl true) H2) → spTold K CI [.ref p, .ref bk] H' Q L2.E0 := fun {H' p Q} s hp k => by
      refine ⟨.ref p, .ref bk, rfl, .inl ⟨p, ns.map h, rfl, SqT.of hp, by rw [List.length_map]; omega, fun m mm => ?_, diff_new gd, .inl ⟨bk, _, rfl, s _ _ hbk, back_vo gd _, fun H2 s2 => ?_⟩⟩⟩
      · obtain ⟨n, mn, rfl⟩ := List.mem_map.mp mm
        have := (gd.hb n mn).2.1
        omega
      · rw [ren_rev gd]
        exact k H2 s2
    refine a_if (fun b' H' => b' = false ∧ Same H5 H') (fun Q' kQ => ?_) (fun _ h => nomatch h.1) ?_
    · refine ⟨_, rfl, bk, bk, _, _, rfl, hbk, .inl ⟨rfl, rfl⟩, fun p np => ⟨_, rfl, ?_⟩⟩
      have ek : ((tabF ns h fun n => V.str n).map fun q => kV q.1) = (ns.map h).map V.str := by simp [tabF, keyS, kV]
      rw [ek]
      refine goodT (same_new np) upd_same fun H6 s6 => ?_
      refine ⟨true, true, rfl, rfl, _, rfl, ite2 (fun q => absurd q (by simp)) (fun _ => ?_)⟩
      have s56 := (same_new np).trans s6
      refine ⟨_, rfl, fd, _, rfl, s56 _ _ hf5, fun vw nvw => ?_⟩
      have s57 := s56.trans (same_new (o := viewO "dict_values" vw fd) nvw)
      refine ⟨vw, fd, _, _, rfl, s57 _ _ hf5, .inr ⟨upd_same, rfl⟩, fun p2 np2 => ⟨_, rfl, ?_⟩⟩
      have ev : (fineK ns h).map (·.2) = (ns.map h).map V.str := by simp [fineK, tabF]
      rw [ev]
      refine goodT (s57.trans (same_new np2)) upd_same fun H8 s8 => ?_
      exact ⟨true, true, rfl, rfl, _, rfl, kQ _ _ ⟨by simp, (s57.trans (same_new np2)).trans s8⟩⟩
    rintro H6 ⟨_, s56⟩
    have hd6 := ((Mv.refl hd5).ofSame s56).dice
    have hn6 := s56 _ _ hn5
    have hf6 := s56 _ _ hf5
    have hpl6 := s56 _ _ hpl5
    have m06 := m05.ofSame s56
    refine go_nx ?_
    refine a_set (fun v H' => ∃ (lt : Addr) (g : Str → Str), v = .ref lt ∧ H' lt = some (.dK (tabF ns h fun n => .str (g n))) ∧ InjOn ns g ∧ (∀ n ∈ ns, g n ∈ poolS) ∧ Mv d H6 H') (fun Q' kQ => ?_) ?_
    · refine ⟨_, rfl, fd, _, rfl, hf6, fun vw nvw => ?_⟩
      have s67 := same_new (o := viewO "dict_values" vw fd) nvw
      have hd7 := ((Mv.refl hd6).ofSame s67).dice
      have hvw : upd H6 vw (viewO "dict_values" vw fd) vw = some (viewO "dict_values" vw fd) := upd_same
      have vw_d : vw ≠ d := hd7.nl hvw fun _ z => by cases z
      refine ⟨_, rfl, _, rfl, d, pl, poolS, rfl, hd7, pl_d, s67 _ _ hpl6, (by decide), fun q es H8 m8 nq hq pm => ?_⟩
      refine ⟨(fineK ns h).map (·.2), es.map V.str, ⟨vw, rfl, .inr (.inr ⟨fd, fineK ns h, m8.get vw_d hvw, m8.get fd_d (s67 _ _ hf6), rfl⟩)⟩, ⟨q, rfl, .inl (SqL.of hq)⟩, fun H9 lp ts old nlp nts _ hlp pr => ?_⟩
      have le := pm.length_eq
      have l8 : poolS.length = 8 := rfl
      obtain ⟨g, e1, e2⟩ := zip_fun (ns := ns) (es := es) nns (by omega)
      have ez : ((fineK ns h).map (·.2)).zip (es.map V.str) = ns.map fun n => (V.str (h n), V.str (g n)) := by
        rw [show (fineK ns h).map (·.2) = ns.map fun n => V.str (h n) by simp [fineK, tabF], List.zip_map, e1, List.map_map]
        rfl
      rw [ez] at pr
      have hin : ∀ n ∈ ns, g n ∈ poolS := fun n m => pm.mem_iff.mp (List.mem_of_mem_take (e2 ▸ List.mem_map.mpr ⟨n, m, rfl⟩))
      refine ⟨lp, ts, tabF ns h fun n => .str (g n), rfl, SqL.of hlp, ?_, fun lt nlt => ?_⟩
      · have conv : ∀ {as : List Addr} {bs : List Str}, Paired (fun t q => H9 t = some (.tup [q.1, q.2])) as (bs.map fun n => (V.str (h n), V.str (g n))) → Paired (fun p (kv : Key × V) => SqT K H9 p [kV kv.1, kv.2]) as (tabF bs h fun n => .str (g n)) := fun {as bs} p => by
          induction bs generalizing as with
          | nil => cases p; exact .nil
          | cons b bs ih => cases p with | cons e p => exact .cons (SqT.of e) (ih p)
        exact conv pr
      · rw [tab_merge gd.nd gd.inj]
        exact kQ _ _ ⟨lt, g, rfl, upd_same, inj_of (by rw [e2]; exact (pm.nodup_iff.mpr pool_nd).sublist (List.take_sublist _ _)), hin, ((((Mv.refl hd6).ofSame s67).trans m8).ofSame old).ofSame (same_new nlt)⟩
    rintro _ H7 ⟨lt, g, rfl, hlt, ig, gin, m7⟩
    have hd7 := m7.dice
    have hn7 := m7.get nt_d hn6
    have hf7 := m7.get fd_d hf6
    have m07 := m06.trans m7
    have gok : ∀ n ∈ ns, nameB (g n) = true ∧ (g n).length ≤ 10 := fun n m => by
      have := List.all_eq_true.mp pool_ok (g n) (gin n m)
      simp only [Bool.and_eq_true, decide_eq_true_eq] at this
      exact ⟨this.1, this.2.1⟩
    refine st_norm ([some (.ref d), some (.ref pl), some (.ref nt), some (.ref fd), w4, w5, w6, some (.ref bk), some (.ref lt), none, none, none]) rfl ?_
    refine a_set (fun v H' => ∃ bo, v = .ref bo ∧ H' bo = some (.dK (fineK ns g)) ∧ Same H7 H') (fun Q' kQ => ?_) ?_
    · refine ⟨_, rfl, nt, rfl, ⟨_, SqT.of hn7⟩, fun Dl nD => ?_⟩
      refine lc_tup (K := K) (a := nt) (xs := ns.map V.str) (fun i H' => Same H7 H' ∧ ∃ ts : List Addr, H' Dl = some (.lst (ts.map V.ref)) ∧ ts.length = i ∧ Paired (fun t n => H' t = some (.tup [.str n, .str (g n)])) ts (ns.take i)) ?_ ?_ ?_ ?_
      · exact ⟨same_new nD, [], upd_same, rfl, .nil⟩
      · rintro i H' _ ⟨s2, _⟩
        exact SqT.of (s2 _ _ hn7)
      · rintro i x H' hi ⟨s2, ts, hD, el, pr⟩
        rw [List.getElem?_map] at hi
        obtain ⟨n, hn', rfl⟩ := Option.map_eq_some_iff.mp hi
        have mn := List.mem_of_getElem? hn'
        refine ⟨rfl, ?_⟩
        refine ⟨_, rfl, _, rfl, _, rfl, _, rfl, fd, .str (h n), rfl, .inl ⟨_, keyS n, .inl (s2 _ _ hf7), rfl, (fine_get mn).symm⟩, lt, .str (g n), rfl, .inl ⟨_, keyS (h n), .inl (s2 _ _ hlt), rfl, (tab_in (g := fun n => V.str (g n)) gd.inj mn).symm⟩, (by show 2 ≤ sizeLine; decide), fun t nt' => ?_⟩
        exact pair_step s2 hD nD el (List.getElem?_eq_some_iff.mp hn').1 n8 (fun n => .str n) (fun n => .str (g n)) pr hn' nt'
      · rintro H8 ⟨s2, ts, hD, el, pr⟩
        rw [List.length_map, List.take_length] at pr
        refine ⟨Dl, ts, fineK ns g, rfl, SqL.of hD, tab_pairs (f := id) pr, fun bo nbo => ?_⟩
        rw [show mergeK [] (fineK ns g) = fineK ns g from tab_merge (f := id) gd.nd fun _ _ _ _ e => e]
        exact kQ _ _ ⟨bo, rfl, upd_same, s2.trans (same_new nbo)⟩
    rintro _ H8 ⟨bo, rfl, hbo, s78⟩
    have hd8 := ((Mv.refl hd7).ofSame s78).dice
    have hn8 := s78 _ _ hn7
    have hf8 := s78 _ _ hf7
    have m08 := m07.ofSame s78
    refine st_norm ([some (.ref d), some (.ref pl), some (.ref nt), some (.ref fd), w4, w5, w6, some (.ref bk), some (.ref lt), some (.ref bo), none, none]) rfl ?_
    refine a_if (fun b' H' => b' = false ∧ Same H8 H') (fun Q' kQ => ?_) (fun _ h => nomatch h.1) ?_
    · have du : Due d H8 ns (.ref bo) true := .inl ⟨bo, fineK ns g, rfl, hbo, fun q m => (by
        obtain ⟨n, mn, rfl⟩ := List.mem_map.mp m
        exact .inl ⟨g n, rfl, by have := (gok n mn).2; omega⟩), (ren_good gd.nd ig fun n m => (gok n m).1).symm⟩
      refine ⟨_, rfl, _, rfl, told_due gd hn8 du fun H9 s9 => ?_⟩
      exact ⟨true, true, rfl, rfl, _, rfl, kQ _ _ ⟨by simp, s9⟩⟩
    rintro H9 ⟨_, s89⟩
    have hd9 := ((Mv.refl hd8).ofSame s89).dice
    have hn9 := s89 _ _ hn8
    have hf9 := s89 _ _ hf8
    have m09 := m08.ofSame s89
    refine go_nx ?_
    refine a_set (fun v H' => ∃ od xs, v = .ref od ∧ od ≠ d ∧ H' od = some (.lst xs) ∧ 0 < xs.length ∧ xs.length ≤ 20 ∧ (∀ x ∈ xs, BadN d H' x) ∧ Same H9 H') (fun Q' kQ => ?_) ?_
    · have sz : sizeLine = 16777216 := sizeLine_eq
      have nne : ns.map V.str ≠ [] := fun z => by
        have := congrArg List.length z
        rw [List.length_map] at this
        exact absurd this (by show ns.length ≠ 0; omega)
      have cat1 : ∀ {G : Hp} {Q2 : VK}, G nt = some (.tup (ns.map V.str)) → (∀ q H', Same G H' → H' q = some (.tup (ns.map V.str ++ (ns.map V.str).take 1)) → Q2 (.ref q) H') →
          (tOp (rCatT K) (tVar 2) (tSl (rSlA K) (tVar 2) tNoPart (tPart (tC (.int 1))))) [some (.ref d), some (.ref pl), some (.ref nt), some (.ref fd), w4, w5, w6, some (.ref bk), some (.ref lt), some (.ref bo), none, none] G Q2 := fun {G Q2} hG kk => by
        refine ⟨_, rfl, _, rfl, _, rfl, nt, _, rfl, SqT.of hG, fun wh => ?_, fun wh p np => ?_⟩
        · have w2 := wh.2
          have l1 : ns.length = 1 := by
            have : HT.sIx (ns.map V.str).length (ns.map V.str).length (some 1) = min 1 (ns.map V.str).length := HT.sIx_nat _ _ 1
            rw [this, List.length_map] at w2
            omega
          have tk : (ns.map V.str).take 1 = ns.map V.str := List.take_of_length_le (by rw [List.length_map]; omega)
          rw [tk] at kk
          exact ⟨nt, nt, _, _, rfl, rfl, SqT.of hG, SqT.of hG, nne, (by rw [List.length_map]; omega), fun z => absurd z nne, fun _ q nq => kk q _ (same_new nq) upd_same⟩
        · have ct : cutV (ns.map V.str) none (some 1) = (ns.map V.str).take 1 := cut_take (by decide)
          rw [ct]
          have tn : (ns.map V.str).take 1 ≠ [] := fun z => by
            have := congrArg List.length z
            rw [List.length_take, List.length_map] at this
            have e0 : ([] : List V).length = 0 := rfl
            omega
          refine ⟨nt, p, _, _, rfl, rfl, SqT.of (same_new np _ _ hG), SqT.of upd_same, nne, (by rw [List.length_take, List.length_map]; omega), fun z => absurd z tn, fun _ q nq => kk q _ ((same_new np).trans (same_new nq)) upd_same⟩
      refine ⟨_, rfl, nt, _, rfl, .inr (SqT.of hn9), fun l1 nl1 => ?_⟩
      have l1_d := hd9.ne nl1
      have c1 := same_new (o := .lst (ns.map V.str)) nl1
      have e1 : upd H9 l1 (.lst (ns.map V.str)) l1 = _ := upd_same
      generalize upd H9 l1 (.lst (ns.map V.str)) = G1 at c1 e1 ⊢
      refine cat1 (c1 _ _ hn9) fun q2 G2 c2 e2 => ?_
      have f2 := c1.trans c2
      refine ⟨_, rfl, (by show 1 ≤ sizeLine; decide), fun a3 na3 => ⟨nt, a3, ns.map V.str, [.str "A"], rfl, rfl, SqT.of (same_new na3 _ _ (f2 _ _ hn9)), SqT.of upd_same, nne, (by rw [List.length_map]; show ns.length + 1 ≤ sizeLine; omega), (fun z => nomatch z), fun _ q3 nq3 => ?_⟩⟩
      have c3 := (same_new (o := .tup [.str "A"]) na3).trans (same_new (o := .tup (ns.map V.str ++ [.str "A"])) nq3)
      have e3 : upd (upd G2 a3 (.tup [.str "A"])) q3 (.tup (ns.map V.str ++ [.str "A"])) q3 = _ := upd_same
      generalize upd (upd G2 a3 (.tup [.str "A"])) q3 (.tup (ns.map V.str ++ [.str "A"])) = G3 at c3 e3 ⊢
      have f3 := f2.trans c3
      intro e ne
      have c4 := same_new (o := .dK []) ne
      have e4 : upd G3 e (.dK []) e = _ := upd_same
      generalize upd G3 e (.dK []) = G4 at c4 e4 ⊢
      have f4 := f3.trans c4
      refine ⟨_, rfl, (by show 1 ≤ sizeLine; decide), fun a5 na5 => ⟨nt, a5, ns.map V.str, [.non], rfl, rfl, SqT.of (same_new na5 _ _ (f4 _ _ hn9)), SqT.of upd_same, nne, (by rw [List.length_map]; show ns.length + 1 ≤ sizeLine; omega), (fun z => nomatch z), fun _ q5 nq5 => ?_⟩⟩
      have c5 := (same_new (o := .tup [.non]) na5).trans (same_new (o := .tup (ns.map V.str ++ [.non])) nq5)
      have e5 : upd (upd G4 a5 (.tup [.non])) q5 (.tup (ns.map V.str ++ [.non])) q5 = _ := upd_same
      generalize upd (upd G4 a5 (.tup [.non])) q5 (.tup (ns.map V.str ++ [.non])) = G5 at c5 e5 ⊢
      have f5 := f4.trans c5
      refine ⟨_, rfl, (by show 1 ≤ sizeLine; decide), fun t6 n6 => ?_⟩
      have c6 := same_new (o := .tup [.ref nt]) n6
      have e6 : upd G5 t6 (.tup [.ref nt]) t6 = _ := upd_same
      generalize upd G5 t6 (.tup [.ref nt]) = G6 at c6 e6 ⊢
      have f6 := f5.trans c6
      refine ⟨(by show 9 ≤ sizeLine; decide), fun od nod => ?_⟩
      have c7 := same_new (o := .lst [.non, .ref l1, .ref q2, .ref q3, .str "ab", .ref e, .ref q5, .int 0, .ref t6]) nod
      have z6 := c6.trans c7
      have z5 := c5.trans z6
      have z4 := c4.trans z5
      have z3 := c3.trans z4
      have z2 := Same.trans c2 z3
      have z1 := c1.trans z2
      have hdE := ((Mv.refl hd9).ofSame z1).dice
      have vs : ∀ {G : Hp}, ∀ z ∈ ns.map V.str, VO G z := fun z m => by
        obtain ⟨n, mn, rfl⟩ := List.mem_map.mp m
        exact .inl ⟨n, rfl, by have := (gd.nb n mn).2.1; omega⟩
      refine kQ _ _ ⟨od, _, rfl, ((Mv.refl hd9).ofSame f6).dice.ne nod, upd_same, (by show 0 < 9; decide), (by show 9 ≤ 20; decide), fun x m => ?_, z1⟩
      simp only [List.mem_cons, List.not_mem_nil, or_false] at m
      rcases m with rfl | rfl | rfl | rfl | rfl | rfl | rfl | rfl | rfl
      · exact .inr (.inl rfl)
      · exact .inr (.inr (.inr (.inr (.inl ⟨l1, _, rfl, l1_d, z2 _ _ e1⟩))))
      · refine .inl ⟨q2, _, rfl, z3 _ _ e2, (by rw [List.length_append, List.length_take, List.length_map]; omega), fun z m => ?_, bad_twice nne⟩
        rcases List.mem_append.mp m with m | m
        · exact vs z m
        · exact vs z (List.mem_of_mem_take m)
      · refine .inl ⟨q3, _, rfl, z4 _ _ e3, (by rw [List.length_append, List.length_map]; show ns.length + 1 ≤ 900; omega), fun z m => ?_, bad_more (by decide +kernel)⟩
        rcases List.mem_append.mp m with m | m
        · exact vs z m
        · rw [List.mem_singleton.mp m]
          exact .inl ⟨_, rfl, by decide +kernel⟩
      · exact .inr (.inr (.inl ⟨_, rfl⟩))
      · exact .inr (.inr (.inr (.inr (.inr ⟨e, [], rfl, z5 _ _ e4⟩))))
      · refine .inl ⟨q5, _, rfl, z6 _ _ e5, (by rw [List.length_append, List.length_map]; show ns.length + 1 ≤ 900; omega), fun z m => ?_, bad_more rfl⟩
        rcases List.mem_append.mp m with m | m
        · exact vs z m
        · rw [List.mem_singleton.mp m]
          exact .inr (.inl rfl)
      · exact .inr (.inr (.inr (.inl ⟨_, rfl⟩)))
      · refine .inl ⟨t6, [.ref nt], rfl, c7 _ _ e6, (by show 1 ≤ 900; decide), fun z m => ?_, bad_more (zs := []) rfl⟩
        rw [List.mem_singleton.mp m]
        exact .inr (.inr (.inr ⟨nt, _, rfl, z1 _ _ hn9⟩))
    rintro _ HA ⟨od, xs, rfl, od_d, hod, l0, l20, bad, s9A⟩
    have hdA := ((Mv.refl hd9).ofSame s9A).dice
    have mA := m09.ofSame s9A
    refine st_norm ([some (.ref d), some (.ref pl), some (.ref nt), some (.ref fd), w4, w5, w6, some (.ref bk), some (.ref lt), some (.ref bo), some (.ref od), none]) rfl ?_
    refine ⟨_, rfl, _, rfl, d, od, xs, rfl, hdA, SqL.of hod, od_d, l0, (by omega), fun i x HB hi mB _ => ⟨_, rfl, ?_⟩⟩
    refine ((bad x (List.mem_of_getElem? hi)).mv hdA mB).told fun HC sC => ?_
    refine ⟨.str "operation", .str "operation", Dx.dp (.str _) rfl, Dx.dp (.str _) rfl, (by decide +kernel), (by decide +kernel), ?_⟩
    rw [show PyData.eqv (.str "operation") (.str "operation") = true by simp [PyData.eqv]]
    exact k HC ((mA.trans mB).ofSame sC)
end
end G

set_option Elab.async false
set_option linter.all false
set_option maxRecDepth 100000
set_option maxHeartbeats 4000000
namespace G
open PySem PySem.Spec PyProof.Rows L2
/-! ## the law -/
theorem Mv.out {d : Addr} {H H' : Hp} {o : HO} (n : H d = none) (m : Mv d (upd H d o) H') : Same H H' := fun b u e => by
  have nb : b ≠ d := ne_of_none e n
  exact m.get nb (by rw [upd_ne nb]; exact e)
def spLaw (K : PySem.W.Frag) : Sp := fun vs H Q _ => ∃ (a : Addr) (ns : List Int), vs = [.ref a] ∧ SqL K H a (ns.map V.int) ∧ ns.length ≤ 63 ∧ ∀ H', Q (.bl true) H'
section
variable {P : Program} {w : World} {K : PySem.W.Frag} {mg : Str → Option Value} {CI : Addr}
theorem c_law {fa : Addr} (T : Txt K mg) (IV : InvO K mg CI) (hf : mg "law" = some (.ref fa))
    (D_is_name : DefAt K mg "is_name" s_is_name ["value"])
    (D_diff : DefAt K mg "_are_different_names" s__are_different_names ["value"])
    (D_ren : DefAt K mg "is_renaming" s_is_renaming ["names", "value"])
    (D__law_dice : DefAt K mg "_law_dice" s__law_dice ["_law_script", "_law_spot"])
    (D__law_roll : DefAt K mg "_law_roll" s__law_roll ["_law_dice_here", "_law_total"])
    (D__law_pick : DefAt K mg "_law_pick" s__law_pick ["_law_dice_here", "_law_items"])
    (D__law_mixed : DefAt K mg "_law_mixed" s__law_mixed ["_law_dice_here", "_law_items"])
    (D__law_told : DefAt K mg "_law_told" s__law_told ["_law_names", "_law_value"])
    (D__law_near : DefAt K mg "_law_near" s__law_near ["_law_dice_here", "_law_names", "_law_fine"])
    (D__law_right : DefAt K mg "_law_right" s__law_right ["_law_dice_here"])
    (D_law : DefAt K mg "law" s_law ["_law_script"]) :
    ∃ fd : FuncData, (∀ (s : Shared) (u : Value), BindsTo s fd ⟨[u], []⟩ [("_law_script", u)]) ∧
      ∀ base : Heap, K.In base → base.Ns mainGlobals mg → FnG P w K mg base CX0 12 fa fd ["_law_script"] (spLaw K) := by
  refine lawOk hf D_law sc_law (fun xs H Q E h => ?_) (fun base hK hN f cdv A out s H xs Q E hgd hr h => ?_)
  · obtain ⟨a, ns, rfl, _⟩ := h
    rfl
  · obtain ⟨a, ns, rfl, hS, hlen, k⟩ := h
    have nd := sc_law.nd
    have C_is_name : CalQ false P w K mg base 1 "is_name" ["value"] (spIsName K) := c_is_name T D_is_name
    have C_diff : CalQ false P w K mg base 2 "_are_different_names" ["value"] (spDiff K) := c_diff T C_is_name D_diff
    have C_ren : CalXQ false P w K mg base 4 "is_renaming" ["names", "value"] (spRen K CI) := x_ren T IV.x C_diff D_ren
    have C__law_dice : CalG P w K mg base 1 "_law_dice" ["_law_script", "_law_spot"] (spDice K) := c_dice T D__law_dice
    have C__law_roll : CalG P w K mg base 1 "_law_roll" ["_law_dice_here", "_law_total"] spRoll := c_roll T D__law_roll
    have C__law_pick : CalG P w K mg base 2 "_law_pick" ["_law_dice_here", "_law_items"] (spPick K) := c_pick T C__law_roll D__law_pick
    have C__law_mixed : CalG P w K mg base 2 "_law_mixed" ["_law_dice_here", "_law_items"] spMix := c_mix T C__law_roll D__law_mixed
    have C__law_told : CalG P w K mg base 6 "_law_told" ["_law_names", "_law_value"] (spTold K CI) := c_told T IV C_ren D__law_told
    have C__law_near : CalG P w K mg base 4 "_law_near" ["_law_dice_here", "_law_names", "_law_fine"] (spNear K) := c_near T C__law_pick D__law_near
    have C__law_right : CalG P w K mg base 8 "_law_right" ["_law_dice_here"] spRight := c_right T C__law_roll C__law_pick C__law_mixed C__law_told C__law_near D__law_right
    refine ⟨_, (pss_cons (ps_for PassesOwn.never rfl (pi_range1 rfl T.range (pa_cons (pe_callB (call_max2 rfl) (by rfl) T.max (by decide +kernel) (pa_cons pe_int (pa_cons (pe_callB (call_min2 rfl) (by rfl) T.min (by decide +kernel) (pa_cons pe_int (pa_cons (pe_callB call_len_seq (by rfl) T.len (by decide +kernel) (pa_cons (pv 0) pa_nil)) pa_nil))) pa_nil))) pa_nil)) (pg_name (i := 1) nd rfl (.inl rfl)) (pss_one (ps_if (pt_not (pt_val (pe_k C__law_right hgd hr (by decide) rfl (pa_cons (pe_k C__law_dice hgd hr (by decide) rfl (pa_cons (pv 0) (pa_cons (pv 1) pa_nil))) pa_nil)))) (pss_one (ps_ret pe_bl)) pss_nil)))
      (pss_cons (ps_set (i := 2) nd rfl (.inl rfl) (pe_lst (pa_cons (pe_k C__law_told hgd hr (by decide) rfl (pa_cons (pe_tup pa_nil) (pa_cons pe_dnewK pa_nil))) (pa_cons (pe_k C__law_told hgd hr (by decide) rfl (pa_cons (pe_tup pa_nil) (pa_cons (pe_disp (pps_cons pe_str pe_str pps_nil) (by rfl) (by rfl) (fun z => by cases z) (by decide)) pa_nil))) (pa_cons (pe_k C__law_told hgd hr (by decide) rfl (pa_cons (pe_tup (pa_cons pe_str (pa_cons pe_str pa_nil))) (pa_cons (pe_disp (pps_cons pe_str pe_str (pps_cons pe_str pe_str pps_nil)) (by rfl) (by rfl) (fun z => by cases z) (by decide)) pa_nil))) pa_nil)))))
      (pss_one (ps_ret (pe_cmpR (op_eqD hr.units) (pv 2) (pe_lst (pa_cons pe_bl (pa_cons pe_bl (pa_cons pe_bl pa_nil)))) (nomark _)))))), ?_⟩
    refine ⟨_, rfl, _, _, rfl, .inl hS, _, _, rfl, _, _, rfl, _, rfl, ?_, ?_, ?_⟩
    · rw [List.length_map]; split <;> split <;> omega
    · rw [List.length_map]; split <;> split <;> omega
    refine for_range (fun i σ H' => ∃ v1, σ = [some (.ref a), v1, none] ∧ Same H H') ?_ ?_ ?_
    · exact ⟨_, rfl, Same.refl _⟩
    · rintro i σ H0 hi ⟨v1, rfl, s0⟩
      refine a_if1 (fun b H' => b = false ∧ Same H0 H') (fun Q' kQ => ?_) (fun H' h => nomatch h.1) (fun H2 h => ⟨_, rfl, s0.trans h.2⟩)
      refine ⟨_, rfl, _, rfl, a, ns, i, (by show [V.ref a, V.int (0 + (i : Int))] = _; rw [Int.zero_add]), s0.seq hS, Nat.le_trans hlen (by decide), fun d l0 t0 c0 nd0 => ?_⟩
      refine ⟨d, rfl, ⟨_, _, _, upd_same⟩, fun H2 m => ⟨true, rfl, kQ _ _ ⟨rfl, Mv.out nd0 m⟩⟩⟩
    · rintro σ H0 ⟨v1, rfl, s0⟩
      refine go_nx ?_
      refine a_set (fun v H' => ∃ p, v = .ref p ∧ H' p = some (.lst [.bl true, .bl false, .bl true])) (fun Q' kQ => ?_) ?_
      · refine ⟨(by show 0 ≤ sizeLine; decide), fun t1 n1 e1 ne1 => ?_⟩
        refine ⟨.ref t1, .ref e1, rfl, .inl ⟨t1, [], rfl, SqT.of (same_new ne1 _ _ upd_same), (by decide), (fun _ m => nomatch m), (by decide +kernel), .inl ⟨e1, [], rfl, upd_same, (fun _ m => nomatch m), fun H1 s1 => ?_⟩⟩⟩
        refine ⟨(by show 0 ≤ sizeLine; decide), fun t2 n2 => ?_⟩
        intro e2 ne2
        refine ⟨upd_same, [(keyS "a", .str "a")], rfl, (by decide), ?_⟩
        refine ⟨.ref t2, .ref e2, rfl, .inl ⟨t2, [], rfl, SqT.of (same_new2 ne2 _ _ upd_same), (by decide), (fun _ m => nomatch m), (by decide +kernel), .inl ⟨e2, _, rfl, upd_same, fun q m => ?_, fun H2 s2 => ?_⟩⟩⟩
        · have m : q ∈ [(keyS "a", V.str "a")] := m
          rw [List.mem_singleton.mp m]
          exact .inl ⟨_, rfl, by decide +kernel⟩
        refine ⟨(by show 2 ≤ sizeLine; decide), fun t3 n3 => ?_⟩
        intro e3 ne3
        refine ⟨upd_same, [(keyS "b", .str "a"), (keyS "a", .str "b")], rfl, (by decide), ?_⟩
        have me : mergeK [] [(keyS "b", V.str "a"), (keyS "a", V.str "b")] = [(keyS "b", V.str "a"), (keyS "a", V.str "b")] := by decide +kernel
        rw [me]
        refine ⟨.ref t3, .ref e3, rfl, .inl ⟨t3, ["a", "b"], rfl, SqT.of (same_new2 ne3 _ _ upd_same), (by decide), fun n m => ?_, (by decide +kernel), .inl ⟨e3, _, rfl, upd_same, fun q m => ?_, fun H3 s3 => ?_⟩⟩⟩
        · simp only [List.mem_cons, List.not_mem_nil, or_false] at m
          rcases m with rfl | rfl
          · decide +kernel
          · decide +kernel
        · simp only [List.mem_cons, List.not_mem_nil, or_false] at m
          rcases m with rfl | rfl
          · exact .inl ⟨_, rfl, by decide +kernel⟩
          · exact .inl ⟨_, rfl, by decide +kernel⟩
        have r1 : renB [] [] = true := by decide +kernel
        have r2 : renB [] (mergeK [] [(keyS "a", V.str "a")]) = false := by decide +kernel
        have r3 : renB ["a", "b"] [(keyS "b", V.str "a"), (keyS "a", V.str "b")] = true := by decide +kernel
        refine ⟨(by show 3 ≤ sizeLine; decide), fun p np => kQ _ _ ⟨p, rfl, ?_⟩⟩
        rw [upd_same, r1, r2, r3]
      · rintro _ H1 ⟨p, rfl, hp⟩
        refine ⟨_, rfl, (by show 3 ≤ sizeLine; decide), fun q nq => ?_⟩
        have dx : ∀ {H2 : Hp}, DxAll H2 [V.bl true, V.bl false, V.bl true] [.bool true, .bool false, .bool true] := fun {H2} => .cons (.bl true) (.cons (.bl false) (.cons (.bl true) .nil))
        refine ⟨.list [.bool true, .bool false, .bool true], .list [.bool true, .bool false, .bool true], Dx.dp (.lst (same_new nq _ _ hp) dx) (by decide +kernel), Dx.dp (.lst upd_same dx) (by decide +kernel), (by decide +kernel), (by decide +kernel), ?_⟩
        rw [show PyData.eqv (.list [.bool true, .bool false, .bool true]) (.list [.bool true, .bool false, .bool true]) = true by simp [PyData.eqv, PyData.eqvAll]]
        exact k _
end
end G

set_option Elab.async false
set_option linter.all false
namespace G
open PySem PySem.Spec PyProof.Rows L2
theorem walk_fingerbooks_k02_whole_renamings {q : Program} {loose : List Str} {XP : (Str → Option Value) → Heap → Prop} {YP : World → Heap → Prop} {d : DefRec} {K : Params → PySem.W.Frag}
    (hdf : d.params.defaults = []) (hY : ∀ (w : World) (h : Heap), YP w h → (K w.params).In h)
    (F : ∀ (w : World) (mg : Str → Option Value) (fa : Addr) (h : Heap), (K w.params).In h → h.Ns mainGlobals mg → mg d.name = some (.ref fa) →
      ∃ fd : FuncData, (∀ (s : Shared) (u : Value), BindsTo s fd ⟨[u], []⟩ [("_law_script", u)]) ∧
        ∀ base : Heap, (K w.params).In base → base.Ns mainGlobals mg → FnG PySem.Challenge.rw_fingerbooks_k02_whole_renamings.prog w (K w.params) mg base CX0 12 fa fd ["_law_script"] (spLaw (K w.params))) :
    PySem.W.WalkO q loose XP YP PySem.Challenge.rw_fingerbooks_k02_whole_renamings.row.toRowW d [] (fun f vs => PySem.call f vs) :=
  endG (n := 63) (k := 12) (sp := fun K => spLaw K) rfl (by decide) hdf ⟨rfl, by decide, by decide⟩ hY F (fun K H a ns hl hS => ⟨a, ns, rfl, hS, hl, fun _ => rfl⟩)
end G
open PySem PySem.W PyProof.Rows in
set_option maxRecDepth 100000 in
set_option maxHeartbeats 0 in
theorem PySem.Challenge.cw_fingerbooks_k02_whole_renamings_holds : PySem.Challenge.rw_fingerbooks_k02_whole_renamings.Holds := by
  w_on; o_law; k_head; (case hw => w_witness2)
  k_fill
  refine G.walk_fingerbooks_k02_whole_renamings rfl (fun w h Y => PySem.W.kIn_of Y) ?F
  case F =>
    intro w mg fa h KX gl hmg
    refine' G.c_law ⟨PySem.W.mg_none_of KX gl ?z1, PySem.W.mg_none_of KX gl ?z2, PySem.W.mg_none_of KX gl ?z3, PySem.W.mg_none_of KX gl ?z4, PySem.W.mg_none_of KX gl ?z5, PySem.W.mg_none_of KX gl ?z6, PySem.W.mg_none_of KX gl ?z7, PySem.W.mg_none_of KX gl ?z8, PySem.W.mg_none_of KX gl ?z9, PySem.W.mg_none_of KX gl ?z10, PySem.W.mg_none_of KX gl ?z11, PySem.W.mg_none_of KX gl ?z12, PySem.W.mg_none_of KX gl ?z13, PySem.W.mg_none_of KX gl ?z14, PySem.W.mg_none_of KX gl ?z15, PySem.W.mg_none_of KX gl ?z16, ⟨_, PySem.W.mg_of KX gl ?z17, ?z18⟩⟩ ⟨⟨PySem.W.mg_of KX gl ?z19, ?z20, ?z21, ?z22, ?z23⟩, ?z24⟩ hmg (G.defAt KX gl ?z29 ?z25 ?z26 ?z27 ?z28) (G.defAt KX gl ?z34 ?z30 ?z31 ?z32 ?z33) (G.defAt KX gl ?z39 ?z35 ?z36 ?z37 ?z38) (G.defAt KX gl ?z44 ?z40 ?z41 ?z42 ?z43) (G.defAt KX gl ?z49 ?z45 ?z46 ?z47 ?z48) (G.defAt KX gl ?z54 ?z50 ?z51 ?z52 ?z53) (G.defAt KX gl ?z59 ?z55 ?z56 ?z57 ?z58) (G.defAt KX gl ?z64 ?z60 ?z61 ?z62 ?z63) (G.defAt KX gl ?z69 ?z65 ?z66 ?z67 ?z68) (G.defAt KX gl ?z74 ?z70 ?z71 ?z72 ?z73) (G.defAt KX gl ?z79 ?z75 ?z76 ?z77 ?z78)
    (case z1 => k_is)
    (case z2 => k_is)
    (case z3 => k_is)
    (case z4 => k_is)
    (case z5 => k_is)
    (case z6 => k_is)
    (case z7 => k_is)
    (case z8 => k_is)
    (case z9 => k_is)
    (case z10 => k_is)
    (case z11 => k_is)
    (case z12 => k_is)
    (case z13 => k_is)
    (case z14 => k_is)
    (case z15 => k_is)
    (case z16 => k_is)
    (case z17 => k_is)
    (case z18 => exact ⟨_, rfl⟩)
    (case z19 => k_is)
    (case z20 => k_exc)
    (case z21 => k_is)
    (case z22 => k_is)
    (case z23 => k_is)
    (case z24 => first | k_is | kernel_rfl)
    (case z25 => k_is)
    (case z26 => k_is)
    (case z27 => k_is)
    (case z28 => k_is)
    (case z29 => exact fun us hl => match us, hl with | [_], _ => rfl)
    (case z30 => k_is)
    (case z31 => k_is)
    (case z32 => k_is)
    (case z33 => k_is)
    (case z34 => exact fun us hl => match us, hl with | [_], _ => rfl)
    (case z35 => k_is)
    (case z36 => k_is)
    (case z37 => k_is)
    (case z38 => k_is)
    (case z39 => exact fun us hl => match us, hl with | [_, _], _ => rfl)
    (case z40 => k_is)
    (case z41 => k_is)
    (case z42 => k_is)
    (case z43 => k_is)
    (case z44 => exact fun us hl => match us, hl with | [_, _], _ => rfl)
    (case z45 => k_is)
    (case z46 => k_is)
    (case z47 => k_is)
    (case z48 => k_is)
    (case z49 => exact fun us hl => match us, hl with | [_, _], _ => rfl)
    (case z50 => k_is)
    (case z51 => k_is)
    (case z52 => k_is)
    (case z53 => k_is)
    (case z54 => exact fun us hl => match us, hl with | [_, _], _ => rfl)
    (case z55 => k_is)
    (case z56 => k_is)
    (case z57 => k_is)
    (case z58 => k_is)
    (case z59 => exact fun us hl => match us, hl with | [_, _], _ => rfl)
    (case z60 => k_is)
    (case z61 => k_is)
    (case z62 => k_is)
    (case z63 => k_is)
    (case z64 => exact fun us hl => match us, hl with | [_, _], _ => rfl)
    (case z65 => k_is)
    (case z66 => k_is)
    (case z67 => k_is)
    (case z68 => k_is)
    (case z69 => exact fun us hl => match us, hl with | [_, _, _], _ => rfl)
    (case z70 => k_is)
    (case z71 => k_is)
    (case z72 => k_is)
    (case z73 => k_is)
    (case z74 => exact fun us hl => match us, hl with | [_], _ => rfl)
    (case z75 => k_is)
    (case z76 => k_is)
    (case z77 => k_is)
    (case z78 => k_is)
    (case z79 => exact fun us hl => match us, hl with | [_], _ => rfl)

