import PyProof.Rows.All
import Wide.All
import OpenK.AllK
import Wide.FinOn
import PyProof.ReprReads
import PyProof.ReprText
import PyProof.ReprLen
import PyProof.ReprBulk
import PyProof.ReprRoads
import HandS.ForMost
import HandS.IsInst
import HandS.Wide
import HandS.StrMore
import HandS.Codes
import KE.DataMinMax
import HandS.TupAny
import HandS.TupMul
import HandS.Style
import HandS.Conv
import HandS.Walk
import KE.GoesEnum
import HandS.Iter
import HandS.Strs
import PySem.Challenge.RW_fingerbooks_k36_whole_places_listed
set_option Elab.async false
set_option linter.all false
set_option maxRecDepth 100000
set_option maxHeartbeats 2000000
namespace G
open PySem PySem.Spec PyProof.Rows L2

/-! ## Promises that hold where no text of an object is being written (guards empty) -/
structure FnG (P : Program) (w : World) (K : PySem.W.Frag) (mg : Str → Option Value) (base : Heap)
    (CX : CXT) (k : Nat) (f : Addr) (fd : FuncData) (ps : List Str) (sp : Sp) : Prop where
  len : ∀ xs H Q E, sp xs H Q E → xs.length = ps.length
  go : ∀ (A : Around) (out : List Env) (s : Shared) (H : Hp) (args : Args) (us : List Value) (xs : List V) (Q : VK) (E : XK),
    A.guards = some [] → Room k A → Env0 P w K mg base A out s H → BindsTo s fd args (ps.zip us) → Vals xs us → sp xs H Q E →
    codeAny (model P w) A (.call (.ref f) args) (CR CX out P w H s Q E) s

theorem FnG.ofOk {P w K mg base CX k f fd ps sp} (F : FnOk P w K mg base CX k f fd ps sp) : FnG P w K mg base CX k f fd ps sp :=
  ⟨F.len, fun A out s H args us xs Q E _ => F.run A out s H args us xs Q E⟩
theorem FnG.mono {P w K mg base CX j k f fd ps sp} (F : FnG P w K mg base CX j f fd ps sp) (h : j ≤ k) : FnG P w K mg base CX k f fd ps sp :=
  ⟨F.len, fun A out s H args us xs Q E hg hr => F.go A out s H args us xs Q E hg (hr.mono h)⟩

section
variable {X : Cx} {CX : CXT} {k : Nat} {f : Addr} {fd : FuncData} {ps : List Str} {sp : Sp} {dvs : List V} {ds : List Value} {E : XK}
theorem runG {pins : List (Addr × Obj)} {σ : L2.St} {H : Hp} {s : Shared} {Q : VK} {us : List Value} {xs : List V}
    (F : FnG X.prog X.w X.K X.mg X.base CX k f fd ps sp) (hgd : X.A.guards = some []) (hr : Room k X.A)
    (hb : Binds X.K fd ps ds) (hd : Vals dvs ds) (hx : Passes CX X E) (I : Inv X pins σ H s) (r : Vals xs us) (h : sp (xs ++ dvs) H Q E) :
    wpAny (model X.prog X.w) X.A (call (.ref f) us) (EP X pins σ Q) X.xe s := by
  have both : Vals (xs ++ dvs) (us ++ ds) := r.append hd
  have sz : (us ++ ds).length = ps.length := both.length.symm.trans (F.len _ _ _ _ h)
  have body := F.go X.A X.stack s H ⟨us, []⟩ (us ++ ds) (xs ++ dvs) Q E hgd hr I.env0 (hb s us I.kIn sz) both h
  refine wpAny_call (codeAny_mono body fun res t hq => ?_)
  match res, hq with
  | .error e, hq => exact hx pins σ H s e t I hq
  | .ok (.ret u), hq => exact I.after hq
  | .ok .next, hq => exact hq.elim
  | .ok .brk, hq => exact hq.elim
  | .ok .cont, hq => exact hq.elim

theorem pe_g {x : Str} {p pos : Pos} {e : Expr} {es : List Expr} {t : TA} (F : FnG X.prog X.w X.K X.mg X.base CX k f fd ps sp)
    (hgd : X.A.guards = some []) (hr : Room k X.A) (hg : Gl X x) (hm : X.mg x = some (.ref f)) (hk : PySem.W.keepIn X.K (.ref f) = true)
    (hb : Binds X.K fd ps ds) (hd : Vals dvs ds) (hx : Passes CX X E) (ha : PA X (e :: es) t)
    (hdb : (x == ("__debug__" : Str)) = false := by decide)
    (he : starEach (e :: es) X.env = (false, eval e X.env) :: starEach es X.env := by rfl)
    (hpl : (backTo pos (starEach es X.env)).any (·.1) = false := by rfl) :
    PE X (.Call (.Name x p) (e :: es) [] pos) (tCall sp dvs E t) :=
  ⟨fun pins s σ H Q I h => wpAny_Call_Name_kw (ld_glob I hg hm
    (PySem.W.callWith_K (h₀ := X.base) I.ok.mod.kin hk
      (thn (ha.run pos pins s σ H _ I h) fun us s1 ⟨xs, H1, I1, r, q⟩ => ⟨I1.kIn, runG F hgd hr hb hd hx I1 r q⟩) he hpl) hdb)⟩
theorem pe_g0 {x : Str} {p pos : Pos} (F : FnG X.prog X.w X.K X.mg X.base CX k f fd ps sp)
    (hgd : X.A.guards = some []) (hr : Room k X.A) (hg : Gl X x) (hm : X.mg x = some (.ref f)) (hk : PySem.W.keepIn X.K (.ref f) = true)
    (hb : Binds X.K fd ps ds) (hd : Vals dvs ds) (hx : Passes CX X E) (hdb : (x == ("__debug__" : Str)) = false := by decide) :
    PE X (.Call (.Name x p) [] [] pos) (tCall sp dvs E tNil) :=
  ⟨fun pins s σ H Q I h => wpAny_Call_Name_kw (ld_glob I hg hm (PySem.W.callWith_K0 I.kIn hk (runG (us := []) F hgd hr hb hd hx I .nil h)) hdb)⟩
end

/-- a def by its body, guards known -/
theorem okG {P : Program} {w : World} {K : PySem.W.Frag} {mg : Str → Option Value} {base : Heap} {x qual : Str} {st : Stmt} {f : Addr} {fd : FuncData}
    {N ps : List Str} {k : Nat} {sp : Sp} (F : Fun K x qual st f fd) (S : FnScope N ps (defScope st)) (len : ∀ xs H Q E, sp xs H Q E → xs.length = ps.length)
    (hbody : ∀ (cdv : Value) (A : Around) (out : List Env) (s : Shared) (H : Hp) (xs : List V) (Q : VK) (E : XK), A.guards = some [] →
      Room k (A.deeper (envOfC qual (defScope st) s.heap.objs.size f cdv)) → sp xs H Q E →
      ∃ t, PSs (cxOf CX0 P w K mg base N qual (defScope st) f cdv A out s H E).nox (defBody st) t ∧
        t { nx := fun _ H' => Q .non H', rt := Q } (start N xs) H) :
    FnG P w K mg base CX0 (k + 1) f fd ps sp := by
  obtain ⟨oc, od, kV, doc, pm, an, cdv, ct, osl, rfl, lk, hcd⟩ := F.ex
  constructor
  · exact len
  intro A out s H args us xs Q E gA hr e0 hb r hsp
  have old : ∀ b o, base.get? b = some o → s.heap.get? b = some o := fun b o q => (e0.bs b o q).1
  have KX : K.In s.heap := e0.mod.kin.keeps old
  have lim : s.heap.NoLimit := e0.mod.nolimit.keeps old
  refine codeAny_call_function hr.depth (KX _ _ lk) rfl S.co S.gen rfl (PySem.W.codeRec_of KX hcd) (hb _ _ _ _ ?_)
  refine wpAny_newFunctionEnv_cells S.kind (fun y hy => ?_) fun env he s1 x1 => ?_
  · have q := S.par y.1 (List.of_mem_zip (a := y.1) (b := y.2) hy).1
    exact q.elim .inl fun q => .inr ⟨q, PySem.W.cellsFrom_some _ _ _ (.inl q)⟩
  · subst he
    refine ⟨lim.keeps x1.toInCall.keep, codeAny_func ?_⟩
    obtain ⟨t, ht, hq⟩ := hbody cdv A out s H xs Q E gA (hr.deeper _) hsp
    have I := inv_start (CX := CX0) (P := P) (w := w) (K := K) (mg := mg) (base := base) (N := N) (ps := ps) (E := E) S hr.hd e0 (len _ _ _ _ hsp) r x1
    refine wpAny_mono (ht.nox.run [] s1 (start N xs) H _ I hq) (fun fl s2 hs => ?_) fun _ _ z => z
    match fl, hs with
    | .ret u, ⟨v, σ', H', J, rv, q⟩ => exact ⟨v, H', J.os, J.bare, J.base, J.hok, rv, q⟩
    | .next, ⟨σ', H', J, q⟩ => exact ⟨V.non, H', J.os, J.bare, J.base, J.hok, rfl, q⟩
    | .brk, ⟨_, _, _, q⟩ => exact q.elim
    | .cont, ⟨_, _, _, q⟩ => exact q.elim

/-! ## the end of a row -/
theorem endG {l : PySem.W.OpenLaw} {n k : Nat} {q : Program} {loose : List Str} {XP : (Str → Option Value) → Heap → Prop} {YP : World → Heap → Prop} {d : DefRec}
    {K : Params → PySem.W.Frag} {sp : PySem.W.Frag → Sp} {x : Str}
    (hn : l.most = some n) (hn2 : n ≤ sizeLine) (hdf : d.params.defaults = []) (hr : Room k callerA)
    (hY : ∀ (w : World) (h : Heap), YP w h → (K w.params).In h)
    (F : ∀ (w : World) (mg : Str → Option Value) (fa : Addr) (h : Heap), (K w.params).In h → h.Ns mainGlobals mg → mg d.name = some (.ref fa) →
      ∃ fd : FuncData, (∀ (s : Shared) (u : Value), BindsTo s fd ⟨[u], []⟩ [(x, u)]) ∧
        ∀ base : Heap, (K w.params).In base → base.Ns mainGlobals mg → FnG l.prog w (K w.params) mg base CX0 k fa fd [x] (sp (K w.params)))
    (hsp : ∀ (K : PySem.W.Frag) (H : Hp) (a : Addr) (ns : List Int), ns.length ≤ n → SqL K H a (ns.map V.int) →
      sp K [.ref a] H (fun v _ => v = .bl true) fun _ _ _ => False) :
    PySem.W.WalkO q loose XP YP l.row.toRowW d [] (fun f vs => PySem.call f vs) := by
  refine Att.attach_call hn hdf fun w s0 s1 mg mb fa o pm cd doc a vs ns gr Y ho hd hcd hmg ha hi hl hgn => ?_
  have KX := hY w _ Y
  obtain ⟨fd, hbind, F⟩ := F w mg fa _ KX gr.T.g hmg
  have rv := vals_ints hi
  have lenV := hi.length
  have nsz : ns.length ≤ sizeLine := Nat.le_trans hl hn2
  -- the tracked heap T: nothing, or the script alone
  have main : ∀ T : Hp, (∀ b, T b = none ∨ ∃ ob xs, T b = some (.frz ob (.lst xs))) → SqL (K w.params) T a (ns.map V.int) → HOk l.prog w T s1.heap →
      (∀ b, T b ≠ none → b = a) → (T a ≠ none → (K w.params).lookup a = none) →
      codeAny (model l.prog w) callerA (.call (.ref fa) ⟨[.ref a], []⟩)
        (fun r t => r = .ok (.ret (.bool true)) ∧ OldK s1.heap t.heap ∧ t.os = s1.os ∧ AllBare t.gens) s1 := by
    intro T only hS hok only_a notK
    have keepD : ∀ {b : Addr} {ob : Obj}, s1.heap.get? b = some ob → (∃ es ep, ob.data = .dict es ep) → (hidT s1.heap T).get? b = some ob := by
      intro b ob e ⟨es, ep, ed⟩
      refine hidT_get e ?_
      match q : T b with
      | none => rfl
      | some u =>
        have hb : b = a := only_a b (by rw [q]; exact Option.some_ne_none _)
        subst hb
        rw [ha] at e
        cases e
        cases (show Data.seq vs.toArray _ = Data.dict es ep from ed)
    have nsT : ∀ {b : Addr} {m : Str → Option Value}, s1.heap.Ns b m → (hidT s1.heap T).Ns b m := by
      rintro b m ⟨ob, es, ep, e, ed, r⟩
      exact ⟨ob, es, ep, keepD e ⟨es, ep, ed⟩, ed, r⟩
    have inT : (K w.params).In (hidT s1.heap T) := by
      intro b ob e
      refine hidT_get (KX b ob e) ?_
      match q : T b with
      | none => rfl
      | some u =>
        have hb : b = a := only_a b (by rw [q]; exact Option.some_ne_none _)
        subst hb
        rw [notK (by rw [q]; exact Option.some_ne_none _)] at e
        cases e
    have nolim : (hidT s1.heap T).NoLimit := by
      obtain ⟨mc, h1, h2⟩ := gr.T.nolimit
      exact ⟨mc, nsT h1, h2⟩
    have md : Mod (K w.params) mg (hidT s1.heap T) := ⟨inT, nsT gr.T.g, ⟨mb, nsT gr.T.b, gr.T.builtins⟩, nolim⟩
    have e0 : Env0 l.prog w (K w.params) mg (hidT s1.heap T) callerA [] s1 T := by
      refine ⟨rfl, md, fun b ob e => of_hidT e, Nat.le_of_eq (hidT_size _ _), trivial, fun b hb => ?_, hok, .of_eq hgn⟩
      cases (show b ∈ ([] : List Addr) from hb)
    have run := (F _ inT (nsT gr.T.g)).go callerA [] s1 T ⟨[.ref a], []⟩ [.ref a] [.ref a] _ _ rfl hr e0 (hbind s1 (.ref a)) (.cons rfl .nil) (hsp (K w.params) T a ns hl hS)
    refine codeAny_mono run fun res t hq => ?_
    match res, hq with
    | .error e, hq => exact hq.elim
    | .ok .next, hq => exact hq.elim
    | .ok .brk, hq => exact hq.elim
    | .ok .cont, hq => exact hq.elim
    | .ok (.ret u), ⟨v, T', os, bare, un, hok', rr, qq⟩ =>
      obtain rfl : v = .bl true := qq
      obtain rfl : u = Value.bool true := rr
      refine ⟨rfl, OldK.of_keep fun b ob e => ?_, os, bare⟩
      match q : T b with
      | none => exact un.keep b ob e q (fun z => nomatch (show b ∈ ([] : List Addr) from z)) (fun z => nomatch z)
      | some u =>
        rcases only b with z | ⟨fo, xs, z⟩
        · rw [q] at z
          cases z
        · obtain ⟨e1, _⟩ := hok b _ z
          obtain ⟨e2, _⟩ := hok' b _ (un.frzs b fo _ z)
          rw [e] at e1
          cases e1
          exact e2
  match hk : (K w.params).lookup a with
  | some ob =>
    have e := KX a ob hk
    rw [ha] at e
    cases e
    refine main (fun _ => none) (fun _ => .inl rfl) (.inr ⟨_, vs.toArray, _, hk, rfl, rfl, rfl, ?_, ?_⟩) (fun b u z => nomatch (show (none : Option HO) = some u from z)) (fun b z => absurd rfl z) (fun z => absurd rfl z)
    · rw [List.size_toArray, lenV]
      exact nsz
    · simpa using rv
  | none =>
    have atA : ∀ b, b = a → (if b = a then some (HO.frz { cls := .type "list", data := .seq vs.toArray } (.lst (ns.map V.int))) else none) = some (HO.frz { cls := .type "list", data := .seq vs.toArray } (.lst (ns.map V.int))) := fun b hb => if_pos hb
    have offA : ∀ b, b ≠ a → (if b = a then some (HO.frz { cls := .type "list", data := .seq vs.toArray } (.lst (ns.map V.int))) else none) = none := fun b hb => if_neg hb
    refine main (fun b => if b = a then some (.frz { cls := .type "list", data := .seq vs.toArray } (.lst (ns.map V.int))) else none) (fun b => ?_) (.inl (.inr ⟨{ cls := .type "list", data := .seq vs.toArray }, atA a rfl⟩)) (fun b u z => ?_) (fun b z => ?_) fun _ => hk
    · by_cases hb : b = a
      · exact .inr ⟨_, _, atA b hb⟩
      · exact .inl (offA b hb)
    · by_cases hb : b = a
      · have z2 := (atA b hb).symm.trans z
        cases z2
        subst hb
        exact ⟨ha, by rw [List.length_map]; exact nsz, vs, _, rv, ha⟩
      · have z2 := (offA b hb).symm.trans z
        cases z2
    · by_cases hb : b = a
      · exact hb
      · exact absurd (offA b hb) z

/-! ## repr of data -/
mutual
/-- data whose text is written: no dict, numbers and texts of bounded size -/
def nice : PyData → Bool
  | .none | .bool _ => true
  | .int i => decide (i.natAbs.log2 < 1200)
  | .str x => x.cps.toList.all fun c => decide (c < 16 ^ 8)
  | .list xs | .tuple xs => niceAll xs
  | .dict _ => false
def niceAll : List PyData → Bool
  | [] => true
  | x :: xs => nice x && niceAll xs
end
structure Shw (d : PyData) : Prop where
  noDict : d.hasDict = false
  able : d.showable = true
  deep : d.depth ≤ 60
  fits : d.shown.length ≤ sizeLine
mutual
theorem nice_facts : ∀ d : PyData, nice d = true → d.hasDict = false ∧ d.showable = true ∧ d.leavesShort 1201 = true
  | .none, _ => by simp [PyData.hasDict, PyData.showable, PyData.leavesShort]
  | .bool _, _ => by simp [PyData.hasDict, PyData.showable, PyData.leavesShort]
  | .int i, h => by
    have h2 : i.natAbs.log2 < 1200 := by simpa [nice] using h
    have h3 := int_text_length_le (a := i) (by decide) h2
    have h4 : (PyData.shown (.int i)).length ≤ 1201 := by
      rw [PyData.shown_int]
      rw [PySem.ofString_length]
      exact h3
    refine ⟨by simp [PyData.hasDict], ?_, ?_⟩
    · simp only [PyData.showable]
      exact decide_eq_true (by omega)
    · simp only [PyData.leavesShort]
      exact decide_eq_true h4
  | .str x, h => by
    refine ⟨by simp [PyData.hasDict], by simp [PyData.showable], ?_⟩
    simpa only [PyData.leavesShort, nice] using h
  | .list xs, h => by
    have q := nice_factsAll xs (by simpa only [nice] using h)
    exact ⟨by simpa only [PyData.hasDict] using q.1, by simpa only [PyData.showable] using q.2.1, by simpa only [PyData.leavesShort] using q.2.2⟩
  | .tuple xs, h => by
    have q := nice_factsAll xs (by simpa only [nice] using h)
    exact ⟨by simpa only [PyData.hasDict] using q.1, by simpa only [PyData.showable] using q.2.1, by simpa only [PyData.leavesShort] using q.2.2⟩
  | .dict _, h => by simp [nice] at h
theorem nice_factsAll : ∀ ds : List PyData, niceAll ds = true → PyData.hasDictAll ds = false ∧ PyData.showableAll ds = true ∧ PyData.leavesShortAll 1201 ds = true
  | [], _ => by simp [PyData.hasDictAll, PyData.showableAll, PyData.leavesShortAll]
  | x :: xs, h => by
    have h' : nice x = true ∧ niceAll xs = true := by simpa [niceAll] using h
    obtain ⟨a1, a2, a3⟩ := nice_facts x h'.1
    obtain ⟨b1, b2, b3⟩ := nice_factsAll xs h'.2
    simp only [PyData.hasDictAll, PyData.showableAll, PyData.leavesShortAll, a1, a2, a3, b1, b2, b3, Bool.or_self, Bool.and_self, and_self]
end
theorem shw {d : PyData} (h : nice d = true) (hd : d.depth ≤ 60) (hb : d.bulk ≤ 10000) : Shw d := by
  obtain ⟨a1, a2, a3⟩ := nice_facts d h
  refine ⟨a1, a2, hd, ?_⟩
  have q := PyData.shown_le_bulk 1201 (by decide) d a3
  have e2 : 16777216 ≤ sizeLine := by decide
  omega
section
variable {X : Cx}
def rRepr (K : PySem.W.Frag) : List V → Hp → VK → Prop := fun xs H Q => ∃ (x : V) (d : PyData), xs = [x] ∧ Dp K H x d ∧ Shw d ∧ Q (.str d.shown) H
theorem call_repr (hgd : X.A.guards = some []) (hu : X.A.units + 64 < cLine) : CallR X (.builtin "repr") (rRepr X.K) := by
  intro pins s σ H xs us Q I r h
  obtain ⟨x, d, rfl, hd, ⟨hn, hs, hp, hz⟩, q⟩ := h
  obtain ⟨u, rfl, ru⟩ := vals1 r
  obtain ⟨as, rd⟩ := Dp.reads I d x u hd ru
  have fin : ∀ h' t tk, (∀ b o, s.heap.get? b = some o → h'.get? b = some o) → EP X pins σ Q (.str d.shown t) { s with heap := h', toks := tk } :=
    fun h' t tk kp => ⟨.str d.shown, H, I.kept kp, ⟨t, rfl⟩, q⟩
  cases hd with
  | lst hl ha =>
    cases (show u = Value.ref _ from ru)
    exact repr_of_reads' rd hs (PyData.noDict_hsm hn) hgd (by omega) (fun _ _ e => e) fin hz
  | tup hl ha =>
    cases (show u = Value.ref _ from ru)
    exact repr_of_reads' rd hs (PyData.noDict_hsm hn) hgd (by omega) (fun _ _ e => e) fin hz
  | int i =>
    obtain ⟨t, rfl⟩ := (show ∃ t, u = Value.int i t from ru)
    have e : (PyData.int i).shown = ((toString i : String) : Str) := PyData.shown_int i
    rw [e] at q
    exact PySem.P.repr_of_int (by simpa [PyData.showable] using hs) ⟨.str _, H, I.tok _, ⟨_, rfl⟩, q⟩
  | non =>
    cases (show u = Value.none from ru)
    rw [PyData.shown_none] at q
    exact PySem.P.repr_of_none ⟨.str _, H, I.tok _, ⟨_, rfl⟩, q⟩
  | bl b =>
    cases (show u = Value.bool b from ru)
    rw [PyData.shown_bool] at q
    refine PySem.P.repr_of_bool ⟨.str _, H, I.tok _, ⟨_, rfl⟩, ?_⟩
    cases b <;> exact q
  | str x =>
    obtain ⟨t, rfl⟩ := (show ∃ t, u = Value.str x t from ru)
    rw [PyData.shown_str] at q hz
    exact PySem.P.repr_of_str ⟨.str _, H, I.tok _, ⟨_, rfl⟩, q⟩ hz
end
/-! ## Defs of the text as constants -/
structure DefAt (K : PySem.W.Frag) (mg : Str → Option Value) (x : Str) (st : Stmt) (ps : List Str) : Prop where
  ex : ∃ f fd, Fun K x x st f fd ∧ mg x = some (.ref f) ∧ ∀ us : List Value, us.length = ps.length → bindArgs fd ⟨us, []⟩ = pure (ps.zip us)
theorem defAt {K : PySem.W.Frag} {h : Heap} {mg : Str → Option Value} {x : Str} {st : Stmt} {ps : List Str} {f : Addr} {oc : Value} {od an : Option Addr} {osl : Array (Option Value)}
    {kV doc pm cdv ct : Value} (KX : K.In h) (gl : h.Ns mainGlobals mg)
    (hb : ∀ us : List Value, us.length = ps.length → bindArgs (PySem.W.fnOf x x (defArgs st) (defBody st) (defScope st) .none kV doc pm an cdv ct) ⟨us, []⟩ = pure (ps.zip us))
    (a : PySem.W.nsIn K mainGlobals x = some (some (.ref f)))
    (l : K.lookup f = some ⟨oc, od, .func (PySem.W.fnOf x x (defArgs st) (defBody st) (defScope st) .none kV doc pm an cdv ct), osl⟩)
    (c : PySem.W.codeIn K cdv x = true) (k : PySem.W.keepIn K (.ref f) = true) : DefAt K mg x st ps :=
  ⟨f, _, fun_mk l c k, PySem.W.mg_of KX gl a, hb⟩
structure CalG (P : Program) (w : World) (K : PySem.W.Frag) (mg : Str → Option Value) (base : Heap) (k : Nat) (x : Str) (ps : List Str) (sp : Sp) : Prop where
  ex : ∃ f fd, FnG P w K mg base CX0 k f fd ps sp ∧ mg x = some (.ref f) ∧ PySem.W.keepIn K (.ref f) = true ∧ Binds K fd ps []
theorem calOk {P : Program} {w : World} {K : PySem.W.Frag} {mg : Str → Option Value} {base : Heap} {x : Str} {st : Stmt} {N ps : List Str} {k : Nat} {sp : Sp}
    (D : DefAt K mg x st ps) (S : FnScope N ps (defScope st)) (len : ∀ xs H Q E, sp xs H Q E → xs.length = ps.length)
    (hbody : ∀ (f : Addr) (cdv : Value) (A : Around) (out : List Env) (s : Shared) (H : Hp) (xs : List V) (Q : VK) (E : XK), A.guards = some [] →
      Room k (A.deeper (envOfC x (defScope st) s.heap.objs.size f cdv)) → sp xs H Q E →
      ∃ t, PSs (cxOf CX0 P w K mg base N x (defScope st) f cdv A out s H E).nox (defBody st) t ∧
        t { nx := fun _ H' => Q .non H', rt := Q } (start N xs) H) : CalG P w K mg base (k + 1) x ps sp := by
  obtain ⟨f, fd, F, m, b⟩ := D.ex
  exact ⟨f, fd, okG F S len (hbody f), m, F.kp, Binds.all b⟩
section
variable {X : Cx} {k j : Nat} {ps : List Str} {sp : Sp} {x : Str} {p pos : Pos} {e : Expr} {es : List Expr} {t : TA}
theorem pe_k (c : CalG X.prog X.w X.K X.mg X.base k x ps sp) (hgd : X.A.guards = some []) (hr : Room j X.A) (hk : k ≤ j) (hg : Gl X x) (ha : PA X (e :: es) t)
    (hdb : (x == ("__debug__" : Str)) = false := by decide)
    (he : starEach (e :: es) X.env = (false, eval e X.env) :: starEach es X.env := by rfl)
    (hpl : (backTo pos (starEach es X.env)).any (·.1) = false := by rfl) :
    PE X (.Call (.Name x p) (e :: es) [] pos) (tCall sp [] E0 t) := by
  obtain ⟨f, fd, F, m, kp, b⟩ := c.ex
  exact pe_g F hgd (hr.mono hk) hg m kp b .nil pass0 ha hdb he hpl
theorem pe_k0 (c : CalG X.prog X.w X.K X.mg X.base k x ps sp) (hgd : X.A.guards = some []) (hr : Room j X.A) (hk : k ≤ j) (hg : Gl X x)
    (hdb : (x == ("__debug__" : Str)) = false := by decide) : PE X (.Call (.Name x p) [] [] pos) (tCall sp [] E0 tNil) := by
  obtain ⟨f, fd, F, m, kp, b⟩ := c.ex
  exact pe_g0 F hgd (hr.mono hk) hg m kp b .nil pass0 hdb
end
/-- the law's own def, at the address that the row names -/
theorem lawOk {P : Program} {w : World} {K : PySem.W.Frag} {mg : Str → Option Value} {x y : Str} {st : Stmt} {N : List Str} {k : Nat} {sp : Sp} {fa : Addr}
    (hf : mg x = some (.ref fa)) (D : DefAt K mg x st [y]) (S : FnScope N [y] (defScope st)) (len : ∀ xs H Q E, sp xs H Q E → xs.length = [y].length)
    (hbody : ∀ base : Heap, K.In base → base.Ns mainGlobals mg → ∀ (f : Addr) (cdv : Value) (A : Around) (out : List Env) (s : Shared) (H : Hp) (xs : List V) (Q : VK) (E : XK), A.guards = some [] →
      Room k (A.deeper (envOfC x (defScope st) s.heap.objs.size f cdv)) → sp xs H Q E →
      ∃ t, PSs (cxOf CX0 P w K mg base N x (defScope st) f cdv A out s H E).nox (defBody st) t ∧
        t { nx := fun _ H' => Q .non H', rt := Q } (start N xs) H) :
    ∃ fd : FuncData, (∀ (s : Shared) (u : Value), BindsTo s fd ⟨[u], []⟩ [(y, u)]) ∧
      ∀ base : Heap, K.In base → base.Ns mainGlobals mg → FnG P w K mg base CX0 (k + 1) fa fd [y] sp := by
  obtain ⟨f, fd, F, m, b⟩ := D.ex
  obtain rfl : f = fa := by
    rw [m] at hf
    cases hf
    rfl
  exact ⟨fd, fun s u => .of_eq (b [u] rfl), fun base h1 h2 => okG F S len (hbody base h1 h2 f)⟩

section
variable {X : Cx} {x : Str} {pos : Pos}
theorem pe_gv {v : V} (hg : Gl X x) (h : ∃ u, X.mg x = some u ∧ RelV v u) (hd : (x == ("__debug__" : Str)) = false := by decide) : PE X (.Name x pos) (tC v) :=
  let ⟨_, hm, r⟩ := h
  pe_glob hg hm r hd
theorem pe_ty (n : String) (hg : Gl X x) (hm : X.mg x = none) (hv : bootBuiltins x = some (.type n)) (hn : x ≠ "__name__" := by decide) (hd : (x == ("__debug__" : Str)) = false := by decide) : PE X (.Name x pos) (tC (.ty n)) :=
  pe_bltn hg hm hv rfl hn hd
end
/-! ## Heaps: what is new, what is rolled -/
theorem same_new {H : Hp} {p : Addr} {o : HO} (h : H p = none) : Same H (upd H p o) := fun b u e => by
  rw [upd_ne (ne_of_none e h)]
  exact e
mutual
theorem Dp.grow {K : PySem.W.Frag} {H H' : Hp} (s : Same H H') : ∀ {x : V} {d : PyData}, Dp K H x d → Dp K H' x d
  | _, _, .non => .non
  | _, _, .bl b => .bl b
  | _, _, .int i => .int i
  | _, _, .str x => .str x
  | _, _, .lst h a => .lst (s.seq h) (DpAll.grow s a)
  | _, _, .tup h a => .tup (by
      rcases h with (h | ⟨o, h⟩) | h
      · exact .inl (.inl (s _ _ h))
      · exact .inl (.inr ⟨o, s _ _ h⟩)
      · exact .inr h) (DpAll.grow s a)
theorem DpAll.grow {K : PySem.W.Frag} {H H' : Hp} (s : Same H H') : ∀ {xs : List V} {ds : List PyData}, DpAll K H xs ds → DpAll K H' xs ds
  | _, _, .nil => .nil
  | _, _, .cons a b => .cons (Dp.grow s a) (DpAll.grow s b)
end
/-- the heap without what stands at d -/
def hide (d : Addr) (H : Hp) : Hp := fun b => if b = d then none else H b
theorem hide_ne {d b : Addr} {H : Hp} (h : b ≠ d) : hide d H b = H b := if_neg h
theorem hide_at {d : Addr} {H : Hp} : hide d H d = none := if_pos rfl
theorem hide_le {d : Addr} {H : Hp} : Same (hide d H) H := fun b o e => by
  by_cases h : b = d
  · subst h
    rw [hide_at] at e
    cases e
  · rw [hide_ne h] at e
    exact e
/-- the dice at d: three numbers -/
def DiceAt (H : Hp) (d : Addr) : Prop := ∃ l s c : Int, H d = some (.lst [.int l, .int s, .int c])
/-- from H to H': the dice at d may have been rolled, what else stood stands -/
structure Mv (d : Addr) (H H' : Hp) : Prop where
  same : Same (hide d H) (hide d H')
  dice : DiceAt H' d
theorem Mv.refl {d : Addr} {H : Hp} (h : DiceAt H d) : Mv d H H := ⟨Same.refl _, h⟩
theorem Mv.trans {d : Addr} {H H1 H2 : Hp} (a : Mv d H H1) (b : Mv d H1 H2) : Mv d H H2 := ⟨a.same.trans b.same, b.dice⟩
theorem Mv.get {d : Addr} {H H' : Hp} (a : Mv d H H') {b : Addr} {o : HO} (n : b ≠ d) (h : H b = some o) : H' b = some o := by
  have := a.same b o (by rw [hide_ne n]; exact h)
  rw [hide_ne n] at this
  exact this
theorem Mv.free {d : Addr} {H H' : Hp} (a : Mv d H H') {p : Addr} (h : H' p = none) : H p = none := by
  by_cases e : p = d
  · subst e
    obtain ⟨l, s, c, q⟩ := a.dice
    rw [q] at h
    cases h
  · match q : H p with
    | none => rfl
    | some o =>
      rw [a.get e q] at h
      cases h
theorem DiceAt.ne {d p : Addr} {H : Hp} (h : DiceAt H d) (n : H p = none) : p ≠ d := fun e => by
  obtain ⟨l, s, c, q⟩ := h
  rw [e, q] at n
  cases n
theorem hide_new {d p : Addr} {H : Hp} {o : HO} (n : p ≠ d) : hide d (upd H p o) = upd (hide d H) p o := by
  funext b
  by_cases h1 : b = d
  · subst h1
    rw [hide_at, upd_ne n.symm, hide_at]
  · rw [hide_ne h1]
    by_cases h2 : b = p
    · subst h2
      rw [upd_same, upd_same]
    · rw [upd_ne h2, upd_ne h2, hide_ne h1]
theorem Mv.new {d p : Addr} {H H' : Hp} {o : HO} (a : Mv d H H') (n : H' p = none) : Mv d H (upd H' p o) := by
  have ne := a.dice.ne n
  refine ⟨fun b u e => ?_, ?_⟩
  · rw [hide_new ne]
    refine same_new ?_ b u (a.same b u e)
    rw [hide_ne ne]
    exact n
  · obtain ⟨l, s, c, q⟩ := a.dice
    exact ⟨l, s, c, by rw [upd_ne ne.symm]; exact q⟩
/-- an own list (new since H) changed -/
theorem Mv.set {d p : Addr} {H H' : Hp} {o : HO} (a : Mv d H H') (n : H p = none) (ne : p ≠ d) : Mv d H (upd H' p o) := by
  refine ⟨fun b u e => ?_, ?_⟩
  · rw [hide_new ne]
    have nb : b ≠ p := fun q => by
      rw [q, hide_ne ne, n] at e
      cases e
    rw [upd_ne nb]
    exact a.same b u e
  · obtain ⟨l, s, c, q⟩ := a.dice
    exact ⟨l, s, c, by rw [upd_ne ne.symm]; exact q⟩
theorem same_new2 {H : Hp} {p : Addr} {o u : HO} (h : H p = none) : Same H (upd (upd H p o) p u) := by
  rw [upd_upd]
  exact same_new h
theorem Mv.new2 {d p : Addr} {H H' : Hp} {o u : HO} (a : Mv d H H') (n : H' p = none) : Mv d H (upd (upd H' p o) p u) := by
  rw [upd_upd]
  exact a.new n
theorem Mv.rolled {d : Addr} {H H' : Hp} {l s c : Int} (a : Mv d H H') : Mv d H (upd H' d (.lst [.int l, .int s, .int c])) := by
  refine ⟨fun b u e => ?_, l, s, c, upd_same⟩
  have q := a.same b u e
  by_cases h : b = d
  · subst h
    rw [hide_at] at q
    cases q
  · rw [hide_ne h] at q ⊢
    rw [upd_ne h]
    exact q
theorem Mv.sql {K : PySem.W.Frag} {d a : Addr} {H H' : Hp} {xs : List V} (m : Mv d H H') (n : a ≠ d) (h : SqL K H a xs) : SqL K H' a xs := by
  rcases h with (h | ⟨o, h⟩) | h
  · exact .inl (.inl (m.get n h))
  · exact .inl (.inr ⟨o, m.get n h⟩)
  · exact .inr h
theorem Mv.dp {K : PySem.W.Frag} {d : Addr} {H H' : Hp} {x : V} {dat : PyData} (m : Mv d H H') (h : Dp K (hide d H) x dat) : Dp K (hide d H') x dat := Dp.grow m.same h
theorem Dp.seen {K : PySem.W.Frag} {d : Addr} {H : Hp} {x : V} {dat : PyData} (h : Dp K (hide d H) x dat) : Dp K H x dat := Dp.grow hide_le h

theorem mul60 : CMulW (10 ^ Int.toNat 60) (10 ^ Int.toNat 60) := by
  unfold CMulW
  decide +kernel
theorem pos60 : (0 : Int) < 10 ^ Int.toNat 60 * 10 ^ Int.toNat 60 := by decide +kernel
theorem mul45 : CMulW (10 ^ Int.toNat 45) (10 ^ Int.toNat 45) := by
  unfold CMulW
  decide +kernel
/-! ## the promises of the dice -/
def spDice (K : PySem.W.Frag) : Sp := fun vs H Q _ => ∃ (a : Addr) (ns : List Int) (i : Nat), vs = [.ref a, .int (i : Int)] ∧ SqL K H a (ns.map V.int) ∧ ns.length ≤ 1000 ∧
  ∀ (p : Addr) (l s c : Int), H p = none → Q (.ref p) (upd H p (.lst [.int l, .int s, .int c]))
def spRoll : Sp := fun vs H Q _ => ∃ (d : Addr) (t : Int), vs = [.ref d, .int t] ∧ DiceAt H d ∧ 0 < t ∧ t.natAbs.log2 < 9000 ∧
  ∀ (r : Int) (H' : Hp), 0 ≤ r → r < t → Mv d H H' → (∀ b, H b = none → H' b = none) → Q (.int r) H'
def spPick (K : PySem.W.Frag) : Sp := fun vs H Q _ => ∃ (d a : Addr) (xs : List V), vs = [.ref d, .ref a] ∧ DiceAt H d ∧ SqL K H a xs ∧ a ≠ d ∧ 0 < xs.length ∧ xs.length ≤ 1000 ∧
  ∀ (i : Nat) (x : V) (H' : Hp), xs[i]? = some x → Mv d H H' → (∀ b, H b = none → H' b = none) → Q x H'
theorem DpAll.map {K : PySem.W.Frag} {H : Hp} {α : Type} (f : α → V) (g : α → PyData) : ∀ (xs : List α), (∀ x ∈ xs, Dp K H (f x) (g x)) → DpAll K H (xs.map f) (xs.map g)
  | [], _ => .nil
  | x :: r, h => .cons (h x List.mem_cons_self) (DpAll.map f g r fun y hy => h y (List.mem_cons_of_mem _ hy))
theorem canAll {α : Type} (g : α → PyData) : ∀ (xs : List α), (∀ x ∈ xs, (g x).canLay0 = true) → PyData.canLayAll0 (xs.map g) = true
  | [], _ => by simp [PyData.canLayAll0]
  | x :: r, h => by
    simp only [List.map_cons, PyData.canLayAll0, h x List.mem_cons_self, canAll g r fun y hy => h y (List.mem_cons_of_mem _ hy), Bool.and_self]
theorem depthAll0 {α : Type} (n : Nat) (g : α → PyData) : ∀ (xs : List α), (∀ x ∈ xs, (g x).depth ≤ n) → PyData.depthAll (xs.map g) ≤ n
  | [], _ => by simp [PyData.depthAll]
  | x :: r, h => by
    have h1 := h x List.mem_cons_self
    have h2 := depthAll0 n g r fun y hy => h y (List.mem_cons_of_mem _ hy)
    simp only [List.map_cons, PyData.depthAll]
    omega

/-! ## readings by statements: what an expression's reading hands on is said in one place -/
section
variable {te : TE} {tt : TT} {i : Nat} {t1 t2 rest : TS} {D : Ends} {σ : L2.St} {H : Hp}
theorem go_nx {t : TS} {r : VK} {b c : L2.St → Hp → Prop} (h : t D σ H) : Ends.nx ⟨t D, r, b, c⟩ σ H := h
theorem a_set (R : V → Hp → Prop) (h : ∀ Q' : VK, (∀ v H', R v H' → Q' v H') → te σ H Q') (k : ∀ v H', R v H' → rest D (σ.set i (some v)) H') :
    tSeq (tAsg te (gName i)) rest D σ H := h _ k
theorem a_set1 (R : V → Hp → Prop) (h : ∀ Q' : VK, (∀ v H', R v H' → Q' v H') → te σ H Q') (k : ∀ v H', R v H' → D.nx (σ.set i (some v)) H') :
    tAsg te (gName i) D σ H := h _ k
theorem a_ret (R : V → Hp → Prop) (h : ∀ Q' : VK, (∀ v H', R v H' → Q' v H') → te σ H Q') (k : ∀ v H', R v H' → D.rt v H') : tRet te D σ H := h _ k
theorem a_if (R : Bool → Hp → Prop) (h : ∀ Q' : Bool → Hp → Prop, (∀ b H', R b H' → Q' b H') → tt σ H Q') (k1 : ∀ H', R true H' → t1 { D with nx := rest D } σ H') (k2 : ∀ H', R false H' → t2 { D with nx := rest D } σ H') :
    tSeq (tIfS tt t1 t2) rest D σ H := h _ fun b H' r => by
  cases b with
  | true => exact iteT (k1 H' r)
  | false => exact iteF (k2 H' r)
theorem a_if1 (R : Bool → Hp → Prop) (h : ∀ Q' : Bool → Hp → Prop, (∀ b H', R b H' → Q' b H') → tt σ H Q') (k1 : ∀ H', R true H' → t1 D σ H') (k2 : ∀ H', R false H' → t2 D σ H') :
    tIfS tt t1 t2 D σ H := h _ fun b H' r => by
  cases b with
  | true => exact iteT (k1 H' r)
  | false => exact iteF (k2 H' r)
end
end G

set_option Elab.async false
set_option linter.all false
set_option maxRecDepth 100000
set_option maxHeartbeats 2000000
namespace G
open PySem PySem.Spec PyProof.Rows L2
/-! ## values as data, dicts among them -/
def keyD : Key → PyData
  | .inl i => .int i
  | .inr z => .str z
mutual
inductive Dx (H : Hp) : V → PyData → Prop
  | non : Dx H .non .none
  | bl (b : Bool) : Dx H (.bl b) (.bool b)
  | int (i : Int) : Dx H (.int i) (.int i)
  | str (x : Str) : Dx H (.str x) (.str x)
  | lst {a : Addr} {xs : List V} {ds : List PyData} : H a = some (.lst xs) → DxAll H xs ds → Dx H (.ref a) (.list ds)
  | tup {a : Addr} {xs : List V} {ds : List PyData} : H a = some (.tup xs) → DxAll H xs ds → Dx H (.ref a) (.tuple ds)
  | dct {a : Addr} {kvs : List (Key × V)} {ps : List (PyData × PyData)} : H a = some (.dK kvs) → DxKv H kvs ps → Dx H (.ref a) (.dict ps)
inductive DxAll (H : Hp) : List V → List PyData → Prop
  | nil : DxAll H [] []
  | cons {v : V} {vs : List V} {d : PyData} {ds : List PyData} : Dx H v d → DxAll H vs ds → DxAll H (v :: vs) (d :: ds)
inductive DxKv (H : Hp) : List (Key × V) → List (PyData × PyData) → Prop
  | nil : DxKv H [] []
  | cons {k : Key} {v : V} {r : List (Key × V)} {d : PyData} {ps : List (PyData × PyData)} : Dx H v d → DxKv H r ps → DxKv H ((k, v) :: r) ((keyD k, d) :: ps)
end
mutual
theorem Dx.grow {H H' : Hp} (s : Same H H') : ∀ {x : V} {d : PyData}, Dx H x d → Dx H' x d
  | _, _, .non => .non
  | _, _, .bl b => .bl b
  | _, _, .int i => .int i
  | _, _, .str x => .str x
  | _, _, .lst h a => .lst (s _ _ h) (DxAll.grow s a)
  | _, _, .tup h a => .tup (s _ _ h) (DxAll.grow s a)
  | _, _, .dct h a => .dct (s _ _ h) (DxKv.grow s a)
theorem DxAll.grow {H H' : Hp} (s : Same H H') : ∀ {xs : List V} {ds : List PyData}, DxAll H xs ds → DxAll H' xs ds
  | _, _, .nil => .nil
  | _, _, .cons a b => .cons (Dx.grow s a) (DxAll.grow s b)
theorem DxKv.grow {H H' : Hp} (s : Same H H') : ∀ {xs : List (Key × V)} {ds : List (PyData × PyData)}, DxKv H xs ds → DxKv H' xs ds
  | _, _, .nil => .nil
  | _, _, .cons a b => .cons (Dx.grow s a) (DxKv.grow s b)
end
mutual
theorem Dx.dp {K : PySem.W.Frag} {H : Hp} : ∀ {x : V} {d : PyData}, Dx H x d → d.hasDict = false → Dp K H x d
  | _, _, .non, _ => .non
  | _, _, .bl b, _ => .bl b
  | _, _, .int i, _ => .int i
  | _, _, .str x, _ => .str x
  | _, _, .lst h a, n => .lst (SqL.of h) (DxAll.dp a (by simpa [PyData.hasDict] using n))
  | _, _, .tup h a, n => .tup (SqT.of h) (DxAll.dp a (by simpa [PyData.hasDict] using n))
  | _, _, .dct h a, n => by simp [PyData.hasDict] at n
theorem DxAll.dp {K : PySem.W.Frag} {H : Hp} : ∀ {xs : List V} {ds : List PyData}, DxAll H xs ds → PyData.hasDictAll ds = false → DpAll K H xs ds
  | _, _, .nil, _ => .nil
  | _, _, .cons a b, n => by
    rw [PyData.hasDictAll, Bool.or_eq_false_iff] at n
    exact .cons (Dx.dp a n.1) (DxAll.dp b n.2)
end
theorem DxAll.len {H : Hp} : ∀ {xs : List V} {ds : List PyData}, DxAll H xs ds → xs.length = ds.length
  | _, _, .nil => rfl
  | _, _, .cons _ b => by rw [List.length_cons, List.length_cons, DxAll.len b]
theorem DxAll.at {H : Hp} : ∀ {xs : List V} {ds : List PyData}, DxAll H xs ds → ∀ (i : Nat) (d : PyData), ds[i]? = some d → ∃ x, xs[i]? = some x ∧ Dx H x d
  | _, _, .nil, _, _, e => by cases e
  | _, _, .cons a b, 0, d, e => by
    cases e
    exact ⟨_, rfl, a⟩
  | _, _, .cons a b, i + 1, d, e => DxAll.at b i d e
theorem DxAll.get {H : Hp} : ∀ {xs : List V} {ds : List PyData}, DxAll H xs ds → ∀ (i : Nat) (x : V), xs[i]? = some x → ∃ d, ds[i]? = some d ∧ Dx H x d
  | _, _, .nil, _, _, e => by cases e
  | _, _, .cons a b, 0, d, e => by
    cases e
    exact ⟨_, rfl, a⟩
  | _, _, .cons a b, i + 1, d, e => DxAll.get b i d e
theorem DxAll.append {H : Hp} : ∀ {xs ys : List V} {ds es : List PyData}, DxAll H xs ds → DxAll H ys es → DxAll H (xs ++ ys) (ds ++ es)
  | _, _, _, _, .nil, h => h
  | _, _, _, _, .cons a b, h => .cons a (DxAll.append b h)
theorem DxAll.take {H : Hp} : ∀ {xs : List V} {ds : List PyData} (n : Nat), DxAll H xs ds → DxAll H (xs.take n) (ds.take n)
  | _, _, 0, _ => .nil
  | _, _, _ + 1, .nil => .nil
  | _, _, n + 1, .cons a b => .cons a (DxAll.take n b)
theorem DxAll.drop {H : Hp} : ∀ {xs : List V} {ds : List PyData} (n : Nat), DxAll H xs ds → DxAll H (xs.drop n) (ds.drop n)
  | _, _, 0, h => h
  | _, _, _ + 1, .nil => .nil
  | _, _, n + 1, .cons a b => DxAll.drop n b
theorem DxAll.rep {H : Hp} {x : V} {d : PyData} (h : Dx H x d) : ∀ n, DxAll H (List.replicate n x) (List.replicate n d)
  | 0 => .nil
  | n + 1 => .cons h (DxAll.rep h n)
def tyName : PyData → String
  | .none => "NoneType" | .bool _ => "bool" | .int _ => "int" | .str _ => "str" | .list _ => "list" | .tuple _ => "tuple" | .dict _ => "dict"
theorem Dx.ty {K : PySem.W.Frag} {H : Hp} {x : V} {d : PyData} (h : Dx H x d) : TyX K H x (.type (tyName d)) := by
  cases h with
  | non => exact .base .non
  | bl b => exact .base (.bl b)
  | int i => exact .base (.int i)
  | str x => exact .base (.str x)
  | lst h _ => exact .base (.lst h)
  | tup h _ => exact .base (.tup h)
  | dct h _ => exact .base (.dK h)
theorem Same.put {H H' : Hp} {p : Addr} {o : HO} (s : Same H H') (n : H p = none) : Same H (upd H' p o) := fun b u e => by
  rw [upd_ne (ne_of_none e n)]
  exact s b u e
/-- a judge: what it says hangs on the value's data alone -/
def spJ (f : PyData → Bool) : Sp := fun vs H Q _ => ∃ (x : V) (d : PyData), vs = [x] ∧ Dx H x d ∧ ∀ H', Same H H' → Q (.bl (f d)) H'
theorem Mv.ofSame {d : Addr} {H H1 H2 : Hp} (a : Mv d H H1) (s : Same H1 H2) : Mv d H H2 := by
  refine ⟨fun b u e => ?_, ?_⟩
  · have q := a.same b u e
    by_cases h : b = d
    · subst h
      rw [hide_at] at q
      cases q
    · rw [hide_ne h] at q ⊢
      exact s _ _ q
  · obtain ⟨l, t, c, q⟩ := a.dice
    exact ⟨l, t, c, s _ _ q⟩
theorem Mv.dx {d : Addr} {H H' : Hp} {x : V} {dat : PyData} (m : Mv d H H') (h : Dx (hide d H) x dat) : Dx (hide d H') x dat := Dx.grow m.same h
theorem Dx.seen {d : Addr} {H : Hp} {x : V} {dat : PyData} (h : Dx (hide d H) x dat) : Dx H x dat := Dx.grow hide_le h

/-! ## the program's judges of forms and rows, as functions of data -/
abbrev BIG : Int := 1000000000000000000000000000000000000000000000000000000000000
def smallB (i : Int) : Bool := decide (-BIG < i) && decide (i < BIG)
def intB : PyData → Bool
  | .int i => smallB i
  | _ => false
def pairB : PyData → Bool
  | .tuple [a, b] => intB a && intB b
  | _ => false
def sideB : PyData → Bool
  | .int i => decide (0 ≤ i) && decide (i ≤ 7)
  | _ => false
def formB : PyData → Bool
  | .tuple [a, b] => sideB a && sideB b
  | _ => false
def formsB : PyData → Bool
  | .tuple ds => decide (ds.length ≤ 200) && ds.all formB
  | _ => false
def zeroD : PyData := .tuple [.int 0, .int 0]
def rowB : PyData → Bool
  | .tuple ds => formsB (.tuple ds) && (ds.isEmpty || !PyData.eqv (ds.getLastD .none) zeroD)
  | _ => false

section
variable {X : Cx}
/-- min and max of a tuple of two numbers -/
def rBest (f : Int → Int → Int) : List V → Hp → VK → Prop := fun vs H Q => ∃ (a : Addr) (i j : Int), vs = [.ref a] ∧ H a = some (.tup [.int i, .int j]) ∧ Q (.int (f i j)) H
open PySem.W in
theorem cr_max2T (hc : X.calm = true) (hu : X.A.units + 64 < cLine) : CallR X (.builtin "max") (rBest max) := by
  intro pins s σ H vs us Q I r h
  obtain ⟨a, i, j, rfl, ha, q⟩ := h
  rw [Vals.ref1 r]
  obtain ⟨its, rv, hl, _⟩ := I.tuple (SqT.of (K := X.K) ha)
  obtain ⟨u1, u2, rfl, r1, r2⟩ := vals2 rv
  obtain ⟨t1, rfl⟩ := (show ∃ t, u1 = Value.int i t from r1)
  obtain ⟨t2, rfl⟩ := (show ∃ t, u2 = Value.int j t from r2)
  refine max_tuple_data (x := .int i) (xs := [.int j]) (I.ok.hd hc) hl (.cons (.int i t1) (.cons (.int j t2) .nil)) ?_ ?_ fun k v h' tk bs hv rd kp => ?_
  · exact ⟨fun x hx y hy => by
      rcases List.mem_cons.mp hx with rfl | hx <;> rcases List.mem_cons.mp hy with rfl | hy
      · rfl
      · rw [List.mem_singleton.mp hy]; rfl
      · rw [List.mem_singleton.mp hx]; rfl
      · rw [List.mem_singleton.mp hy, List.mem_singleton.mp hx]; rfl, fun x hx z => by
      rcases List.mem_cons.mp hx with rfl | hx
      · cases z
      · rw [List.mem_singleton.mp hx] at z
        cases z⟩
  · have e : PyData.depthAll [.int i, .int j] = 0 := by simp [PyData.depthAll, PyData.depth]
    rw [e]
    omega
  · have e : maxD (.int i) [.int j] = .int (max i j) := maxD_ints i [j]
    rw [e] at rd
    cases rd with
    | int _ t => exact ⟨.int _, H, I.kept kp, ⟨t, rfl⟩, q⟩
open PySem.W in
theorem cr_min2T (hc : X.calm = true) (hu : X.A.units + 64 < cLine) : CallR X (.builtin "min") (rBest min) := by
  intro pins s σ H vs us Q I r h
  obtain ⟨a, i, j, rfl, ha, q⟩ := h
  rw [Vals.ref1 r]
  obtain ⟨its, rv, hl, _⟩ := I.tuple (SqT.of (K := X.K) ha)
  obtain ⟨u1, u2, rfl, r1, r2⟩ := vals2 rv
  obtain ⟨t1, rfl⟩ := (show ∃ t, u1 = Value.int i t from r1)
  obtain ⟨t2, rfl⟩ := (show ∃ t, u2 = Value.int j t from r2)
  refine min_tuple_data (x := .int i) (xs := [.int j]) (I.ok.hd hc) hl (.cons (.int i t1) (.cons (.int j t2) .nil)) ?_ ?_ fun k v h' tk bs hv rd kp => ?_
  · exact ⟨fun x hx y hy => by
      rcases List.mem_cons.mp hx with rfl | hx <;> rcases List.mem_cons.mp hy with rfl | hy
      · rfl
      · rw [List.mem_singleton.mp hy]; rfl
      · rw [List.mem_singleton.mp hx]; rfl
      · rw [List.mem_singleton.mp hy, List.mem_singleton.mp hx]; rfl, fun x hx z => by
      rcases List.mem_cons.mp hx with rfl | hx
      · cases z
      · rw [List.mem_singleton.mp hx] at z
        cases z⟩
  · have e : PyData.depthAll [.int i, .int j] = 0 := by simp [PyData.depthAll, PyData.depth]
    rw [e]
    omega
  · have e : minD (.int i) [.int j] = .int (min i j) := minD_ints i [j]
    rw [e] at rd
    cases rd with
    | int _ t => exact ⟨.int _, H, I.kept kp, ⟨t, rfl⟩, q⟩
end
/-! ## tuples put together, cut and repeated, over data -/
theorem fresh_same {d p : Addr} {H : Hp} {o : HO} (hd : DiceAt H d) (n : H p = none) : Same (hide d H) (hide d (upd H p o)) := ((Mv.refl hd).new n).same
theorem OpR.to {X : Cx} {f : Value → Value → Sem Value} {r r' : R2} (h : OpR X f r) (i : ∀ x y H Q, r' x y H Q → r x y H Q) : OpR X f r' :=
  fun pins s σ H x y v u Q I rx ry q => h pins s σ H x y v u Q I rx ry (i _ _ _ _ q)
theorem Dx.tupOf {H : Hp} {x : V} {ds : List PyData} (h : Dx H x (.tuple ds)) : ∃ a xs, x = .ref a ∧ H a = some (.tup xs) ∧ DxAll H xs ds := by
  cases h with
  | tup h1 h2 => exact ⟨_, _, rfl, h1, h2⟩
def rCatD : R2 := fun x y H Q => ∃ (d : Addr) (ds es : List PyData), DiceAt H d ∧ Dx (hide d H) x (.tuple ds) ∧ Dx (hide d H) y (.tuple es) ∧ ds.length + es.length ≤ 100000 ∧
  ∀ v H', Mv d H H' → Dx (hide d H') v (.tuple (ds ++ es)) → Q v H'
theorem op_catD {X : Cx} : OpR X (binaryOp .Add) rCatD := by
  refine OpR.to op_catA fun x y H Q h => ?_
  obtain ⟨d, ds, es, hd, hx, hy, hl, k⟩ := h
  obtain ⟨a, xs, rfl, ha, hxs⟩ := hx.tupOf
  obtain ⟨b, ys, rfl, hb, hys⟩ := hy.tupOf
  have l1 := hxs.len
  have l2 := hys.len
  refine ⟨a, b, xs, ys, rfl, rfl, SqT.of (hide_le _ _ ha), SqT.of (hide_le _ _ hb), Nat.le_trans (show xs.length + ys.length ≤ 100000 by omega) (by decide), fun e => ?_, fun _ e => ?_, fun _ _ p np => ?_⟩
  · subst e
    cases hxs
    exact k _ _ (Mv.refl hd) hy
  · subst e
    cases hys
    refine k _ _ (Mv.refl hd) ?_
    rw [List.append_nil]
    exact hx
  · refine k _ _ ((Mv.refl hd).new np) (.tup (by rw [hide_ne (hd.ne np)]; exact upd_same) (DxAll.grow (fresh_same hd np) (hxs.append hys)))
/-- the part of a tuple that a slice takes -/
def cutD (ds : List PyData) (lo hi : Option Int) : List PyData := (ds.drop (HT.sIx ds.length 0 lo)).take (HT.sIx ds.length ds.length hi - HT.sIx ds.length 0 lo)
def rSlD : V → Option Int → Option Int → Hp → VK → Prop := fun x lo hi H Q => ∃ (d : Addr) (ds : List PyData), DiceAt H d ∧ Dx (hide d H) x (.tuple ds) ∧
  ∀ v H', Mv d H H' → Dx (hide d H') v (.tuple (cutD ds lo hi)) → Q v H'
theorem sl_tupD {X : Cx} : SlR X rSlD := by
  intro pins s σ H x v vl vu lo hi sl Q I rx hs pl pu h
  obtain ⟨d, ds, hd, hx, k⟩ := h
  obtain ⟨a, xs, rfl, ha, hxs⟩ := hx.tupOf
  have l1 := hxs.len
  refine sl_tupA pins s σ H (.ref a) v vl vu lo hi sl Q I rx hs pl pu ⟨a, xs, rfl, SqT.of (hide_le _ _ ha), fun e => ?_, fun _ p np => ?_⟩
  · refine k _ _ (Mv.refl hd) ?_
    have e2 : cutD ds lo hi = ds := by
      unfold cutD
      rw [← l1, e.1, e.2]
      simp [l1]
    rw [e2]
    exact hx
  · refine k _ _ ((Mv.refl hd).new np) (.tup (by rw [hide_ne (hd.ne np)]; exact upd_same) (DxAll.grow (fresh_same hd np) ?_))
    have e2 : cutV xs lo hi = (xs.drop (HT.sIx ds.length 0 lo)).take (HT.sIx ds.length ds.length hi - HT.sIx ds.length 0 lo) := by
      unfold cutV
      rw [l1]
    rw [e2]
    exact (hxs.drop _).take _
def rRepD : R2 := fun x y H Q => ∃ (d : Addr) (k : Int) (ds : List PyData), y = .int k ∧ DiceAt H d ∧ Dx (hide d H) x (.tuple ds) ∧ ds ≠ [] ∧ 2 ≤ k ∧ k ≤ 1000 ∧ ds.length ≤ 1000 ∧
  ∀ v H', Mv d H H' → Dx (hide d H') v (.tuple (List.replicate k.toNat ds).flatten) → Q v H'
theorem DxAll.flat {H : Hp} {xs : List V} {ds : List PyData} (h : DxAll H xs ds) : ∀ n, DxAll H (List.replicate n xs).flatten (List.replicate n ds).flatten
  | 0 => .nil
  | n + 1 => by
    rw [List.replicate_succ, List.replicate_succ, List.flatten_cons, List.flatten_cons]
    exact h.append (DxAll.flat h n)
theorem op_repD {X : Cx} : OpR X (binaryOp .Mult) rRepD := by
  refine OpR.to op_repT fun x y H Q h => ?_
  obtain ⟨d, n, ds, rfl, hd, hx, h0, h2, h3, h4, k⟩ := h
  obtain ⟨a, xs, rfl, ha, hxs⟩ := hx.tupOf
  have l1 := hxs.len
  refine ⟨a, n, xs, rfl, rfl, SqT.of (hide_le _ _ ha), fun e => ?_, h2, h3, by omega, fun p np => ?_⟩
  · subst e
    cases hxs
    exact h0 rfl
  · exact k _ _ ((Mv.refl hd).new np) (.tup (by rw [hide_ne (hd.ne np)]; exact upd_same) (DxAll.grow (fresh_same hd np) (hxs.flat n.toNat)))
/-- a value picked out of a list of known data -/
theorem picked {d : Addr} {H H' : Hp} {xs : List V} {ds : List PyData} {i : Nat} {x : V} (h : DxAll (hide d H) xs ds) (m : Mv d H H') (e : xs[i]? = some x) : ∃ dat, dat ∈ ds ∧ Dx (hide d H') x dat := by
  obtain ⟨dat, h1, h2⟩ := h.get i x e
  exact ⟨dat, List.mem_of_getElem? h1, h2.grow m.same⟩
end G

set_option Elab.async false
set_option linter.all false
set_option maxRecDepth 100000
set_option maxHeartbeats 4000000
namespace G
open PySem PySem.Spec PyProof.Rows L2 HT
/-! ## a tuple read backwards: t[::-1] -/
theorem all_places {α : Type} : ∀ l : List α, (List.range l.length).filterMap (fun k => l[k]?) = l
  | [] => rfl
  | x :: r => by
    have ih := all_places r
    rw [List.length_cons, List.range_succ_eq_map, List.filterMap_cons]
    show x :: List.filterMap (fun k => (x :: r)[k]?) (List.map Nat.succ (List.range r.length)) = x :: r
    rw [List.filterMap_map]
    exact congrArg (x :: ·) ih
theorem fm_congr {α β : Type} {f g : α → Option β} : ∀ l : List α, (∀ x ∈ l, f x = g x) → l.filterMap f = l.filterMap g
  | [], _ => rfl
  | x :: r, h => by
    rw [List.filterMap_cons, List.filterMap_cons, h x List.mem_cons_self, fm_congr r fun y hy => h y (List.mem_cons_of_mem _ hy)]
theorem back_items (xs : Array Value) : ((List.range xs.size).filterMap fun (k : Nat) => xs[(((xs.size : Int) - 1) + (k : Int) * (-1)).toNat]?).toArray = xs.toList.reverse.toArray := by
  congr 1
  have e := all_places xs.toList.reverse
  rw [List.length_reverse, Array.length_toList] at e
  rw [← e]
  refine fm_congr _ fun k hk => ?_
  have hk' : k < xs.size := List.mem_range.mp hk
  rw [show (((xs.size : Int) - 1) + (k : Int) * (-1)).toNat = xs.size - 1 - k by omega]
  rw [← Array.getElem?_toList, List.getElem?_reverse (by rw [Array.length_toList]; exact hk'), Array.length_toList]
section
variable {prog : Program} {w : World} {A : Around} {E : Value → Shared → Prop} {s : Shared}
theorem applied_back {sl : Addr} {vl vu vs : Value} {n : Nat} {Q : Int × Int × Nat → Shared → Prop} (hs : s.heap.IsSliceOf sl vl vu vs) (pl : IsPart vl none) (pu : IsPart vu none) (ps : IsPart vs (some (-1)))
    (h : Q ((n : Int) - 1, -1, n) s) : wpAny (model prog w) A (Builtin.Slice.sliceApplied (.ref sl) (pure (n : Int))) Q E s := by
  obtain ⟨so, so1, so2, so3⟩ := id hs
  unfold Builtin.Slice.sliceApplied Builtin.Slice.sliceFields
  refine wpAny_bind (wpAny_bind (wpAny_field so1 so3 (x := vl) rfl (wpAny_bind (wpAny_field so1 so3 (x := vu) rfl (wpAny_bind (wpAny_field so1 so3 (x := vs) rfl (wpAny_pure ?_)))))))
  refine wpAny_bind (slicePart_ ps ?_)
  show wpAny _ _ (if ((-1 : Int) == 0) = true then _ else _) _ _ s
  rw [if_neg (by decide)]
  refine wpAny_bind (slicePart_ pl (wpAny_bind (slicePart_ pu (wpAny_bind (wpAny_pure ?_)))))
  have e1 : Builtin.Slice.sliceAdjust none none (-1) (n : Int) = ((n : Int) - 1, -1) := rfl
  have e2 : Builtin.Slice.slicePlaces ((n : Int) - 1) (-1) (-1) = n := by
    unfold Builtin.Slice.slicePlaces
    rw [if_neg (by decide)]
    by_cases q : (n : Int) - 1 > -1
    · rw [if_pos q]
      have : ((n : Int) - 1 - -1 - 1) / - -1 = (n : Int) - 1 - -1 - 1 := by
        rw [Int.neg_neg, Int.ediv_one]
      rw [this]
      omega
    · rw [if_neg q]
      omega
  show wpAny _ _ (match Builtin.Slice.sliceAdjust none none (-1) (n : Int) with | (lo, hi) => pure (lo, (-1 : Int), Builtin.Slice.slicePlaces lo hi (-1))) _ _ s
  rw [e1]
  show wpAny _ _ (pure ((n : Int) - 1, (-1 : Int), Builtin.Slice.slicePlaces ((n : Int) - 1) (-1) (-1))) _ _ s
  rw [e2]
  exact wpAny_pure h
theorem item_back {t sl : Addr} {items : Array Value} {vl vu vs : Value} {Q : Value → Shared → Prop} (ht : IsTup s.heap t items) (hs : s.heap.IsSliceOf sl vl vu vs) (pl : IsPart vl none) (pu : IsPart vu none) (ps : IsPart vs (some (-1)))
    (h : Q (.ref s.heap.objs.size) { s with heap := s.heap.push { cls := .type "tuple", data := .seq items.toList.reverse.toArray } }) (hsz : items.size ≤ sizeLine) : wpAny (model prog w) A (getItem (.ref t) (.ref sl)) Q E s := by
  have fits : sizeOk (.seq items.toList.reverse.toArray) := by
    show items.toList.reverse.toArray.size ≤ sizeLine
    rw [List.size_toArray, List.length_reverse, Array.length_toList]
    exact hsz
  obtain ⟨so, so1, so2, so3⟩ := id hs
  have kind : s.TypeIs (.ref sl) "slice" := ⟨so, so1, so2⟩
  unfold getItem
  try with_reducible refine wpAny_holding ?_
  first | refine wpAny_bind (wpAny_pure ?_) | skip
  refine wpAny_bind (wpAny_sequenceKey ht.typeIs (by decide) ?_)
  refine wpAny_bind (wpAny_callSpecial?_slot (name := Str.ofString "__getitem__") ht.typeIs PyProof.Rows.slot_tuple_getitem (wpAny_call_entry PyProof.Rows.slot_tuple_getitem ht.typeIs entry_tuple_getitem ?_ (args_tuple_getitem _ _)))
  show wpAny _ _ (Builtin.Tuple.tupleItemsOf (.ref t) >>= _) _ _ s
  refine wpAny_bind (tupleItemsOf_ ht (wpAny_bind (wpAny_typeOf kind ?_)))
  rw [if_pos (by decide)]
  refine wpAny_bind (applied_back hs pl pu ps ?_)
  have part : ¬ ((((items.size : Int) - 1) == 0 && (-1 : Int) == 1 && items.size == items.size) = true) := by
    intro q
    rw [Bool.and_eq_true, Bool.and_eq_true] at q
    exact absurd q.1.2 (by decide)
  show wpAny _ _ (if (((items.size : Int) - 1) == 0 && (-1 : Int) == 1 && items.size == items.size) = true then _ else _) _ _ s
  rw [if_neg part, back_items]
  first
    | exact wpAny_bind (m := Builtin.Tuple.tupleExact _) (wpAny_newObj_type (wpAny_pure ⟨_, rfl, wpAny_pure h⟩) fits)
    | exact wpAny_bind (m := Builtin.Tuple.tupleExact _) (wpAny_newObj_type (wpAny_bind (wpAny_pure (wpAny_pure ⟨_, rfl, wpAny_pure h⟩))) fits)
    | exact wpAny_bind (wpAny_bind (m := Builtin.Tuple.tupleExact _) (wpAny_newObj_type (wpAny_pure (wpAny_pure ⟨_, rfl, wpAny_pure h⟩)) fits))
    | exact wpAny_bind (wpAny_bind (m := Builtin.Tuple.tupleExact _) (wpAny_newObj_type (wpAny_pure ⟨_, rfl, wpAny_pure h⟩) fits))
end
def tRevT (K : PySem.W.Frag) (te : TE) : TE := fun σ H Q => te σ H fun x H1 => ∃ a xs, x = .ref a ∧ SqT K H1 a xs ∧ ∀ p, H1 p = none → Q (.ref p) (upd H1 p (.tup xs.reverse))
theorem pe_revT {X : Cx} {e : Expr} {te : TE} {k : Nat} {p1 p2 p3 pos : Pos} (he : PE X e te) : PE X (.Subscript e (.Slice none none (some (.UnaryOp .USub (.Constant (.int 1) k p1) p2)) p3) pos) (tRevT X.K te) := by
  constructor
  intro pins s σ H Q I h
  refine Subscript_ (thn (he.run pins s σ H _ I h) fun v s1 hv => ?_)
  obtain ⟨x, H1, I1, r1, a, xs, rfl, hx, q⟩ := hv
  cases r1
  have stp : PO X (some (.UnaryOp .USub (.Constant (.int 1) k p1) p2)) (tPart (tUn (rU fun i => .int (-i)) (tC (.int 1)))) := po_some (pe_un un_neg pe_int)
  refine wpAny_Slice (thn (po_none.run pins s1 σ H1 (fun o G => o = none ∧ G = H1) I1 ⟨rfl, rfl⟩) fun vl s2 hl => ?_)
  obtain ⟨l, H2, I2, pl, rfl, rfl⟩ := hl
  refine thn (po_none.run pins s2 σ H2 (fun o G => o = none ∧ G = H2) I2 ⟨rfl, rfl⟩) fun vu s3 hu => ?_
  obtain ⟨u, H3, I3, pu, rfl, rfl⟩ := hu
  refine thn (stp.run pins s3 σ H3 (fun o G => o = some (-1) ∧ G = H3) I3 ⟨1, rfl, -1, rfl, rfl, rfl⟩) fun vs s4 ho => ?_
  obtain ⟨o, H4, I4, ps, rfl, rfl⟩ := ho
  have I5 : Inv X pins σ H4 { s4 with heap := s4.heap.push { cls := .type "slice", data := .fields #[vl, vu, vs] } } := I4.kept (t' := s4.toks) fun b ob z => Heap.get?_push_of_some _ z
  obtain ⟨its, r, ht, hz⟩ := I5.tuple hx
  have hlen := r.length
  show wpAny (model X.prog X.w) X.A (subscriptTail e (.Slice none none (some (.UnaryOp .USub (.Constant (.int 1) k p1) p2)) p3) (.ref a) (.ref s4.heap.objs.size)) (EP X pins σ Q) X.xe { s4 with heap := s4.heap.push { cls := .type "slice", data := .fields #[vl, vu, vs] } }
  refine tail_any (ops := [.ref a, .ref s4.heap.objs.size]) ht.typeIs (PyProof.Rows.slot_tuple_getitem.lookup) ?_ (by with_unfolding_all rfl)
  refine item_back ht (Heap.IsSliceOf.new _ vl vu vs) pl pu ps ?_ (by rw [List.size_toArray]; omega)
  refine ⟨.ref _, _, I5.laid (t' := s4.toks) (o := .tup xs.reverse) (fun b ob z => Heap.get?_push_of_some _ z) (Nat.le_refl _) ?_, rfl, q _ (I5.hok.fresh (Nat.le_refl _))⟩
  refine ⟨by rw [List.length_reverse]; exact hz, its.reverse, r.reverse, _, Heap.get?_push_size _ rfl, rfl, 0, ?_⟩
  simp
end G

set_option Elab.async false
set_option linter.all false
set_option maxRecDepth 100000
set_option maxHeartbeats 1000000
namespace G
open PySem PySem.Spec PyProof.Rows L2
/-! ## places of elements: pure -/
structure Blk where
  lev : Nat
  side : Str
  many : Nat
structure Plc where
  lev : Nat
  side : Str
  idx : Nat
  path : List Nat
structure Spn where
  lev : Nat
  side : Str
  beg : Nat
  fin : Nat
def dig (K : Nat) : Nat → Nat → List Nat
  | 0, _ => []
  | n + 1, q => dig K n (q / K) ++ [q % K]
def Blk.sz (K : Nat) (b : Blk) : Nat := b.many * K ^ b.lev
def plc (K : Nat) (b : Blk) (q : Nat) : Plc := ⟨b.lev, b.side, q / K ^ b.lev, dig K b.lev q⟩
def blkPlaces (K : Nat) (b : Blk) : List Plc := (List.range (b.sz K)).map (plc K b)
def placesB (K : Nat) (bs : List Blk) : List Plc := bs.flatMap (blkPlaces K)
def spansB (K : Nat) : Nat → List Blk → List Spn
  | _, [] => []
  | a, b :: r => if 0 < b.sz K then ⟨b.lev, b.side, a, a + b.sz K⟩ :: spansB K (a + b.sz K) r else spansB K (a + b.sz K) r
def lefts : Nat → List (Nat × Nat) → List Blk
  | _, [] => []
  | i, g :: r => ⟨i, "left", g.1⟩ :: lefts (i + 1) r
def rights : Nat → List (Nat × Nat) → List Blk
  | _, [] => []
  | i, g :: r => ⟨i, "right", g.2⟩ :: rights (i + 1) r
def blocks (gs : List (Nat × Nat)) : List Blk := lefts 0 gs ++ (rights 0 gs).reverse
def places (K : Nat) (gs : List (Nat × Nat)) : List Plc := placesB K (blocks gs)
def total (K : Nat) (bs : List Blk) : Nat := (bs.map (Blk.sz K)).sum
theorem dig_len (K : Nat) : ∀ n q, (dig K n q).length = n
  | 0, _ => rfl
  | n + 1, q => by
    rw [dig, List.length_append, dig_len K n]
    rfl
theorem dig_lt {K : Nat} (hK : 0 < K) : ∀ n q, ∀ c ∈ dig K n q, c < K
  | 0, _, c, h => nomatch h
  | n + 1, q, c, h => by
    rw [dig] at h
    rcases List.mem_append.mp h with h | h
    · exact dig_lt hK n _ c h
    · rw [List.mem_singleton.mp h]
      exact Nat.mod_lt _ hK
theorem dig_add {K : Nat} (hK : 0 < K) : ∀ n a p, dig K n (a * K ^ n + p) = dig K n p
  | 0, _, _ => rfl
  | n + 1, a, p => by
    have e : a * K ^ (n + 1) = a * K ^ n * K := by rw [Nat.pow_succ, Nat.mul_assoc]
    rw [dig, dig, e, Nat.add_comm, Nat.add_mul_div_right _ _ hK, Nat.add_mul_mod_self_right, Nat.add_comm (p / K), dig_add hK n]
theorem dig_fold {K : Nat} : ∀ n q, (dig K n q).foldl (fun i p => i * K + p) (q / K ^ n) = q
  | 0, q => by simp [dig]
  | n + 1, q => by
    rw [dig, List.foldl_append]
    have e : q / K ^ (n + 1) = q / K / K ^ n := by rw [Nat.pow_succ, Nat.mul_comm, Nat.div_div_eq_div_mul]
    rw [e, dig_fold n (q / K)]
    show q / K * K + q % K = q
    have := Nat.div_add_mod q K
    rw [Nat.mul_comm] at this
    exact this
theorem placesB_len (K : Nat) : ∀ bs, (placesB K bs).length = total K bs
  | [] => rfl
  | b :: r => by
    show (blkPlaces K b ++ placesB K r).length = _
    rw [List.length_append, placesB_len K r]
    simp [blkPlaces, total]
/-- the number n lies in a block: its span, and the place -/
theorem place_in {K : Nat} : ∀ (bs : List Blk) (a n : Nat) (p : Plc), (placesB K bs)[n]? = some p →
    ∃ (s : Spn) (b : Blk), b ∈ bs ∧ s ∈ spansB K a bs ∧ s.lev = b.lev ∧ s.side = b.side ∧ s.beg ≤ a + n ∧ a + n < s.fin ∧ a + n - s.beg < b.sz K ∧ p = plc K b (a + n - s.beg)
  | [], _, n, p, h => by simp [placesB] at h
  | b :: r, a, n, p, h => by
    have h : (blkPlaces K b ++ placesB K r)[n]? = some p := h
    have l : (blkPlaces K b).length = b.sz K := by simp [blkPlaces]
    by_cases q : n < b.sz K
    · rw [List.getElem?_append_left (by omega)] at h
      have e : p = plc K b n := by
        unfold blkPlaces at h
        rw [List.getElem?_map, List.getElem?_range q] at h
        exact (Option.some.inj h).symm
      refine ⟨⟨b.lev, b.side, a, a + b.sz K⟩, b, List.mem_cons_self, ?_, rfl, rfl, Nat.le_add_right _ _, by show a + n < a + b.sz K; omega, by show a + n - a < b.sz K; omega, ?_⟩
      · rw [spansB, if_pos (by omega)]
        exact List.mem_cons_self
      · show p = plc K b (a + n - a)
        rw [Nat.add_sub_cancel_left]
        exact e
    · rw [List.getElem?_append_right (by omega), l] at h
      obtain ⟨s, b', h1, h2, h3, h4, h5, h6, h7, h8⟩ := place_in r (a + b.sz K) (n - b.sz K) p h
      have e : a + b.sz K + (n - b.sz K) = a + n := by omega
      rw [e] at h5 h6 h7 h8
      refine ⟨s, b', List.mem_cons_of_mem _ h1, ?_, h3, h4, h5, h6, h7, h8⟩
      rw [spansB]
      split
      · exact List.mem_cons_of_mem _ h2
      · exact h2
theorem spans_ge {K : Nat} : ∀ (bs : List Blk) (a : Nat) (s : Spn), s ∈ spansB K a bs → a ≤ s.beg ∧ s.beg < s.fin
  | [], _, _, h => nomatch h
  | b :: r, a, s, h => by
    rw [spansB] at h
    split at h
    · rename_i q
      rcases List.mem_cons.mp h with rfl | h
      · exact ⟨Nat.le_refl _, by show a < a + b.sz K; omega⟩
      · have := spans_ge r _ s h
        omega
    · have := spans_ge r _ s h
      omega
/-- at most one span holds a number -/
theorem span_one {K : Nat} : ∀ (bs : List Blk) (a n : Nat) (s t : Spn), s ∈ spansB K a bs → t ∈ spansB K a bs → s.beg ≤ n → n < s.fin → t.beg ≤ n → n < t.fin → s = t
  | [], _, _, _, _, h, _, _, _, _, _ => nomatch h
  | b :: r, a, n, s, t, hs, ht, s1, s2, t1, t2 => by
    rw [spansB] at hs ht
    split at hs
    · rename_i q
      rw [if_pos q] at ht
      rcases List.mem_cons.mp hs with rfl | hs
      · rcases List.mem_cons.mp ht with rfl | ht
        · rfl
        · have := (spans_ge r _ t ht).1
          have s2 : n < a + b.sz K := s2
          omega
      · rcases List.mem_cons.mp ht with rfl | ht
        · have := (spans_ge r _ s hs).1
          have t2 : n < a + b.sz K := t2
          omega
        · exact span_one r _ n s t hs ht s1 s2 t1 t2
    · rename_i q
      rw [if_neg q] at ht
      exact span_one r _ n s t hs ht s1 s2 t1 t2
theorem filter_one {α : Type} {l : List α} {f : α → Bool} {s : α} (h1 : s ∈ l) (h2 : f s = true) (h3 : ∀ t ∈ l, f t = true → t = s) : ∃ r, l.filter f = s :: r := by
  cases e : l.filter f with
  | nil =>
    have := List.mem_filter.mpr ⟨h1, h2⟩
    rw [e] at this
    cases this
  | cons t r =>
    have ht : t ∈ l.filter f := by rw [e]; exact List.mem_cons_self
    obtain ⟨a, b⟩ := List.mem_filter.mp ht
    exact ⟨r, by rw [h3 t a b]⟩
/-- blocks with keys all different -/
def Apart (bs : List Blk) : Prop := bs.Pairwise fun b c => ¬ (b.lev = c.lev ∧ b.side = c.side)
theorem span_of {K : Nat} : ∀ (bs : List Blk) (a : Nat) (s : Spn), s ∈ spansB K a bs → ∃ b ∈ bs, s.lev = b.lev ∧ s.side = b.side
  | [], _, _, h => nomatch h
  | b :: r, a, s, h => by
    rw [spansB] at h
    have go : s ∈ spansB K (a + b.sz K) r → ∃ c ∈ b :: r, s.lev = c.lev ∧ s.side = c.side := fun h => by
      obtain ⟨c, hc, e⟩ := span_of r _ s h
      exact ⟨c, List.mem_cons_of_mem _ hc, e⟩
    split at h
    · rcases List.mem_cons.mp h with rfl | h
      · exact ⟨b, List.mem_cons_self, rfl, rfl⟩
      · exact go h
    · exact go h
theorem span_key {K : Nat} : ∀ (bs : List Blk) (a : Nat) (s t : Spn), Apart bs → s ∈ spansB K a bs → t ∈ spansB K a bs → t.lev = s.lev → t.side = s.side → t = s
  | [], _, _, _, _, h, _, _, _ => nomatch h
  | b :: r, a, s, t, hA, hs, ht, e1, e2 => by
    obtain ⟨h1, h2⟩ := List.pairwise_cons.mp hA
    have no : ∀ u ∈ spansB K (a + b.sz K) r, ¬ (b.lev = u.lev ∧ b.side = u.side) := fun u hu ⟨q1, q2⟩ => by
      obtain ⟨c, hc, e3, e4⟩ := span_of r _ u hu
      exact h1 c hc ⟨by omega, by rw [q2, e4]⟩
    rw [spansB] at hs ht
    split at hs
    · rename_i q
      rw [if_pos q] at ht
      rcases List.mem_cons.mp hs with rfl | hs
      · rcases List.mem_cons.mp ht with rfl | ht
        · rfl
        · exact absurd ⟨e1.symm, e2.symm⟩ (no t ht)
      · rcases List.mem_cons.mp ht with rfl | ht
        · exact absurd ⟨e1, e2⟩ (no s hs)
        · exact span_key r _ s t h2 hs ht e1 e2
    · rename_i q
      rw [if_neg q] at ht
      exact span_key r _ s t h2 hs ht e1 e2
theorem left_ne : ("left" : Str) ≠ "right" := by decide +kernel
theorem lefts_mem : ∀ (i : Nat) (gs : List (Nat × Nat)) (b : Blk), b ∈ lefts i gs → b.side = "left" ∧ ∃ j, ∃ g, gs[j]? = some g ∧ b.lev = i + j ∧ b.many = g.1
  | _, [], _, h => nomatch h
  | i, g :: r, b, h => by
    rcases List.mem_cons.mp h with rfl | h
    · exact ⟨rfl, 0, g, rfl, rfl, rfl⟩
    · obtain ⟨a, j, g', h1, h2, h3⟩ := lefts_mem (i + 1) r b h
      exact ⟨a, j + 1, g', h1, by omega, h3⟩
theorem rights_mem : ∀ (i : Nat) (gs : List (Nat × Nat)) (b : Blk), b ∈ rights i gs → b.side = "right" ∧ ∃ j, ∃ g, gs[j]? = some g ∧ b.lev = i + j ∧ b.many = g.2
  | _, [], _, h => nomatch h
  | i, g :: r, b, h => by
    rcases List.mem_cons.mp h with rfl | h
    · exact ⟨rfl, 0, g, rfl, rfl, rfl⟩
    · obtain ⟨a, j, g', h1, h2, h3⟩ := rights_mem (i + 1) r b h
      exact ⟨a, j + 1, g', h1, by omega, h3⟩
theorem lefts_apart : ∀ (i : Nat) (gs : List (Nat × Nat)), Apart (lefts i gs)
  | _, [] => List.Pairwise.nil
  | i, g :: r => List.pairwise_cons.mpr ⟨fun c hc ⟨e, _⟩ => by
      obtain ⟨_, j, _, _, h, _⟩ := lefts_mem _ _ c hc
      have e : i = c.lev := e
      omega, lefts_apart (i + 1) r⟩
theorem rights_apart : ∀ (i : Nat) (gs : List (Nat × Nat)), Apart (rights i gs)
  | _, [] => List.Pairwise.nil
  | i, g :: r => List.pairwise_cons.mpr ⟨fun c hc ⟨e, _⟩ => by
      obtain ⟨_, j, _, _, h, _⟩ := rights_mem _ _ c hc
      have e : i = c.lev := e
      omega, rights_apart (i + 1) r⟩
theorem blocks_apart (gs : List (Nat × Nat)) : Apart (blocks gs) := by
  refine List.pairwise_append.mpr ⟨lefts_apart 0 gs, ?_, fun b hb c hc ⟨_, e⟩ => ?_⟩
  · refine List.pairwise_reverse.mpr ((rights_apart 0 gs).imp fun h ⟨e1, e2⟩ => h ⟨e1.symm, e2.symm⟩)
  · have h1 := (lefts_mem _ _ b hb).1
    have h2 := (rights_mem _ _ c (List.mem_reverse.mp hc)).1
    rw [h1, h2] at e
    exact left_ne e
theorem blocks_mem {gs : List (Nat × Nat)} {b : Blk} (h : b ∈ blocks gs) : ∃ g, gs[b.lev]? = some g ∧ ((b.side = "left" ∧ b.many = g.1) ∨ (b.side = "right" ∧ b.many = g.2)) := by
  rcases List.mem_append.mp h with h | h
  · obtain ⟨a, j, g, h1, h2, h3⟩ := lefts_mem _ _ b h
    exact ⟨g, by rw [h2, Nat.zero_add]; exact h1, .inl ⟨a, h3⟩⟩
  · obtain ⟨a, j, g, h1, h2, h3⟩ := rights_mem _ _ b (List.mem_reverse.mp h)
    exact ⟨g, by rw [h2, Nat.zero_add]; exact h1, .inr ⟨a, h3⟩⟩
/-- the law's grouping of places -/
def grp1 (F : List Spn) (n : Nat) (p : Plc) : List Spn :=
  match F.getLast? with
  | none => [⟨p.lev, p.side, n, n + 1⟩]
  | some s => if s.lev = p.lev ∧ s.side = p.side then F.dropLast ++ [⟨p.lev, p.side, s.beg, n + 1⟩] else F ++ [⟨p.lev, p.side, n, n + 1⟩]
def grp (F : List Spn) : Nat → List Plc → List Spn
  | _, [] => F
  | n, p :: r => grp (grp1 F n p) (n + 1) r
theorem grp_app (F : List Spn) (n : Nat) (xs ys : List Plc) : grp F n (xs ++ ys) = grp (grp F n xs) (n + xs.length) ys := by
  induction xs generalizing F n with
  | nil => rfl
  | cons p r ih =>
    show grp (grp1 F n p) (n + 1) (r ++ ys) = _
    rw [ih]
    show _ = grp (grp (grp1 F n p) (n + 1) r) (n + (r.length + 1)) ys
    rw [show n + 1 + r.length = n + (r.length + 1) by omega]
theorem grp_same (F : List Spn) (lv : Nat) (sd : Str) (a : Nat) : ∀ (ps : List Plc) (n : Nat), (∀ p ∈ ps, p.lev = lv ∧ p.side = sd) → grp (F ++ [⟨lv, sd, a, n⟩]) n ps = F ++ [⟨lv, sd, a, n + ps.length⟩]
  | [], n, _ => rfl
  | p :: r, n, h => by
    obtain ⟨e1, e2⟩ := h p List.mem_cons_self
    have s1 : grp1 (F ++ [⟨lv, sd, a, n⟩]) n p = F ++ [⟨lv, sd, a, n + 1⟩] := by
      unfold grp1
      rw [List.getLast?_append]
      simp [e1, e2]
    show grp (grp1 _ n p) (n + 1) r = _
    rw [s1, grp_same F lv sd a r (n + 1) fun q hq => h q (List.mem_cons_of_mem _ hq), List.length_cons, show n + 1 + r.length = n + (r.length + 1) by omega]
theorem grp_blk (K : Nat) (F : List Spn) (b : Blk) (n : Nat) (hF : ∀ s, F.getLast? = some s → ¬ (s.lev = b.lev ∧ s.side = b.side)) :
    grp F n (blkPlaces K b) = if 0 < b.sz K then F ++ [⟨b.lev, b.side, n, n + b.sz K⟩] else F := by
  cases q : b.sz K with
  | zero =>
    have : blkPlaces K b = [] := by simp [blkPlaces, q]
    rw [this]
    rfl
  | succ m =>
    have e : blkPlaces K b = plc K b 0 :: (List.range m).map fun i => plc K b (i + 1) := by
      unfold blkPlaces
      rw [q, List.range_succ_eq_map, List.map_cons, List.map_map]
      rfl
    rw [e, if_pos (Nat.succ_pos m)]
    have s1 : grp1 F n (plc K b 0) = F ++ [⟨b.lev, b.side, n, n + 1⟩] := by
      unfold grp1
      cases h : F.getLast? with
      | none =>
        rw [List.getLast?_eq_none_iff.mp h]
        rfl
      | some s => exact if_neg (hF s h)
    show grp (grp1 F n _) (n + 1) _ = _
    rw [s1, grp_same F b.lev b.side n _ (n + 1) fun p hp => by
      obtain ⟨i, _, rfl⟩ := List.mem_map.mp hp
      exact ⟨rfl, rfl⟩]
    rw [List.length_map, List.length_range, show n + 1 + m = n + (m + 1) by omega]
theorem grp_places (K : Nat) : ∀ (bs : List Blk) (F : List Spn) (n : Nat), Apart bs → (∀ s, F.getLast? = some s → ∀ b ∈ bs, ¬ (s.lev = b.lev ∧ s.side = b.side)) → grp F n (placesB K bs) = F ++ spansB K n bs
  | [], F, n, _, _ => by
    show F = F ++ []
    rw [List.append_nil]
  | b :: r, F, n, hA, hF => by
    obtain ⟨h1, h2⟩ := List.pairwise_cons.mp hA
    show grp F n (blkPlaces K b ++ placesB K r) = _
    have l : (blkPlaces K b).length = b.sz K := by simp [blkPlaces]
    rw [grp_app, grp_blk K F b n fun s h => hF s h b List.mem_cons_self, l, spansB]
    by_cases q : 0 < b.sz K
    · rw [if_pos q, if_pos q, grp_places K r _ _ h2 ?_, List.append_assoc]
      · rfl
      · intro s h c hc
        rw [List.getLast?_append] at h
        simp at h
        subst h
        exact h1 c hc
    · rw [if_neg q, if_neg q]
      exact grp_places K r F _ h2 fun s h c hc => hF s h c (List.mem_cons_of_mem _ hc)
theorem grp_all (K : Nat) (gs : List (Nat × Nat)) : grp [] 0 (places K gs) = spansB K 0 (blocks gs) := by
  exact (grp_places K (blocks gs) [] 0 (blocks_apart gs) (fun s h => by cases h)).trans (List.nil_append _)
end G

set_option Elab.async false
set_option linter.all false
set_option maxRecDepth 100000
set_option maxHeartbeats 4000000
namespace G
open PySem PySem.Spec PyProof.Rows L2
/-! ## enumerate of a tuple -/
theorem en_new {v : Value} {o : Obj} {F : Heap → Prop} (B : Begins v o F) :
    Meets (Builtin.«enumerate.__new__» ⟨[.type "enumerate", v], []⟩) (fun _ Fin st => F st.heap ∧
      Fin (.ok (.ret (.ref (st.heap.push o).objs.size))) { st with heap := (st.heap.push o).push { cls := .type "enumerate", data := .fields #[.none, .bool false, .ref st.heap.objs.size, rawInt 0, .none, .none] } }) :=
  .of_wp fun pr wo Ar Fin st hh => by
    obtain ⟨hp0, g0, d0, tk0, os0⟩ := st
    obtain ⟨fv, hh⟩ := hh
    have sub := sub_enumerate
    have starts : ∀ {A1 : Around} {E1 Q1 : Value → Shared → Prop}, Q1 (.ref hp0.objs.size) ⟨hp0.push o, g0, d0, tk0, os0⟩ → wpAny (model pr wo) A1 (pyIter v) Q1 E1 ⟨hp0, g0, d0, tk0, os0⟩ := fun q => B.iter pr wo _ _ ⟨hp0, g0, d0, tk0, os0⟩ _ fv q
    wp_walk using starts
    refine wpAny_stack_any fun _ => wpAny_pure ?_
    split
    · rename_i c0 _ _ _ _ _
      cases (c0 == Value.type "enumerate") <;> (wp_walk using starts; exact ⟨_, rfl, hh⟩)
    · wp_walk using starts
      exact ⟨_, rfl, hh⟩
section
variable {pr : Program} {wo : World} {Ar : Around} {Er : Value → Shared → Prop} {st : Shared}
theorem en_call {v : Value} {o : Obj} {Hp0 : Heap → Prop} {Q : Value → Shared → Prop} (B : Begins v o Hp0) (h1 : Hp0 st.heap)
    (k : ∀ h2, IsEnum h2 (st.heap.objs.size + 1) st.heap.objs.size 0 .none → h2.get? st.heap.objs.size = some o → (∀ b u, st.heap.get? b = some u → h2.get? b = some u) → Q (.ref (st.heap.objs.size + 1)) { st with heap := h2 }) :
    wpAny (model pr wo) Ar (call (.type "enumerate") [v]) Q Er st := by
  refine callType_new F.called_enumerate (by decide) (F.typeCall_enumerate_1 _) (F.newCall_enumerate_1 _) (fun ob => F.args_object_init_2 ob _) F.entry_enumerate_new (en_new B) ⟨h1, ?_⟩
  have sz : (st.heap.push o).objs.size = st.heap.objs.size + 1 := Heap.size_push ..
  show _ ∧ _
  rw [sz]
  have at1 := Heap.get?_push_size (st.heap.push o) (o := { cls := .type "enumerate", data := .fields #[.none, .bool false, .ref st.heap.objs.size, rawInt 0, .none, .none] }) rfl
  rw [sz] at at1
  exact ⟨⟨_, at1, rfl⟩, k _ at1 (Heap.get?_push_of_some _ (Heap.get?_push_size _ B.free)) fun b u e => Heap.get?_push_of_some _ (Heap.get?_push_of_some _ e)⟩
end
section
variable {pr : Program} {wo : World} {Ar : Around} {Er : Value → Shared → Prop} {st : Shared}
theorem en_stop {en it a : Addr} {i : Nat} {items : Array Value} {n : Int} {old : Value} {Q : Option Value → Shared → Prop} (hh : Ar.handled = none) (he : IsEnum st.heap en it n old) (hit : st.heap.IsTupleIter it a i) (ht : st.heap.IsTuple a items) (hx : items[i]? = none)
    (k : ∀ h2, Heap.ExtBut it st.heap h2 → Q none { st with heap := h2 }) : wpAny (model pr wo) Ar (pyNext (.ref en)) Q Er st := by
  have kind : st.TypeIs (.ref en) "enumerate" := ⟨_, he, rfl⟩
  unfold pyNext
  refine wpAny_bind (wpAny_attempt (wpAny_callSpecial?_slot (name := Str.ofString "__next__") kind F.slot_enumerate_next (wpAny_call_entry F.slot_enumerate_next kind F.entry_enumerate_next ?_ (F.args_enumerate_next_1 _))))
  show wpAny _ _ (field (.ref en) 2 >>= _) _ _ _
  refine wpAny_bind (wpAny_field he rfl (x := .ref it) rfl (wpAny_bind (wpAny_nextOf_tuple_end hh hit ht hx fun h2 ex eb hs => ?_)))
  obtain ⟨o, ho, hc⟩ := hs
  exact wpAny_bind (wpAny_isInstance (T := "StopIteration") (b := true) ⟨o, ho, hc⟩ isSubtype_stop (wpAny_pure (k _ eb)))
end
/-- the tuple at a, each item in a new pair with its number -/
def IteT (K : PySem.W.Frag) (a : Addr) : It :=
  ⟨fun i H => ∃ (xs : List V) (x : V), SqT K H a xs ∧ xs[i]? = some x, fun i H v H' => ∃ T x, v = .ref T ∧ H T = none ∧ H' = upd H T (.tup [.int (i : Nat), x]) ∧ ∀ xs, SqT K H a xs → xs[i]? = some x, fun i H => ∃ xs : List V, SqT K H a xs ∧ xs.length ≤ i⟩
theorem turn_enumT {P : Program} {w : World} {K : PySem.W.Frag} {elts : List Expr} {kk : Nat} {tpos : Pos} (a en it : Addr) :
    Turn P w K (.Tuple elts kk tpos) (IteT K a) [en, it] en (fun i h => (∃ old, IsEnum h en it ((i : Nat) : Int) old) ∧ h.IsTupleIter it a i ∧ en ≠ it ∧ a ≠ it ∧ a ≠ en) where
  mem := by simp
  obj := fun i h stt b hb => by
    obtain ⟨⟨old, he⟩, ⟨o, ho, hc, hd⟩, _⟩ := stt
    rcases (show b = en ∨ b = it by simpa using hb) with rfl | rfl
    · exact ⟨_, he, fun v q => nomatch q⟩
    · exact ⟨o, ho, fun v q => by rw [hd] at q; cases q⟩
  keep := fun i h h2 stt k => by
    obtain ⟨⟨old, he⟩, hi, r⟩ := stt
    exact ⟨⟨old, k en (by simp) _ he⟩, hi.at fun o q => k it (by simp) o q, r⟩
  item := by
    intro X hP hw hK hc i pins s σ H E I hf stt hg
    subst hP hw hK
    obtain ⟨⟨old, he⟩, hit, n1, n2, n3⟩ := stt
    obtain ⟨xs, x, hq, hx⟩ := hg
    obtain ⟨its, rv, p, hz⟩ := I.tuple hq
    obtain ⟨u, hu, ru⟩ := rv.get hx
    have l1 : en < s.heap.objs.size := Heap.lt_size he
    have l2 : it < s.heap.objs.size := by
      obtain ⟨_, q, _⟩ := hit
      exact Heap.lt_size q
    have il : i < its.toArray.size := by
      rw [List.size_toArray]
      exact (List.getElem?_eq_some_iff.mp hu).1
    have D := Draws.tuple (prog := X.prog) (w := X.w) (A := X.A.in1) (I.ok.hd hc) it a n2 its.toArray
    refine wpAny_pyNext_enum_itemC D he ⟨hit, p⟩ il n1 (by simp; exact ⟨n1, Ne.symm n3⟩) fun y h2 tk hy ho hs hT hsz hk => ?_
    obtain rfl : y = u := by
      have : its[i]? = some y := by simpa using hy
      rw [this] at hu
      exact Option.some.inj hu
    refine ⟨_, rfl, wpAny_letOwnedTupleGo_enum (s := { s with heap := h2, toks := tk + 1 }) ho fun h3 he3 sb => ?_⟩
    have T2 : h3.get? s.heap.objs.size = some { cls := .type "tuple", data := .seq #[.int i tk, y] } := (sb.2 _ (Nat.ne_of_gt l1)).trans hT
    have new : ObjOk X.prog X.w (upd H s.heap.objs.size (.tup [.int (i : Nat), x])) h3 s.heap.objs.size (.tup [.int (i : Nat), x]) :=
      ⟨by show 2 ≤ sizeLine; decide, [.int i tk, y], .cons ⟨_, rfl⟩ (.cons ru .nil), ⟨_, T2, rfl, _, rfl⟩⟩
    have I1 : Inv X pins σ (upd H s.heap.objs.size (.tup [.int (i : Nat), x])) { s with heap := h3, toks := tk + 1 } :=
      I.turnedNew (ch := [en, it]) (fun b ob hb q => (sb.2 b (fun z => hb (by simp [z]))).trans (hk b ob (fun z => hb (by simp [z])) (fun z => hb (by simp [z])) q)) hf (Nat.le_refl _) new
    refine ⟨.ref s.heap.objs.size, _, I1, rfl, ⟨_, x, rfl, I.hok.fresh (Nat.le_refl _), rfl, fun ys hy => by rw [I.tuple_inj hy hq]; exact hx⟩, ⟨⟨y, ?_⟩, hs.1.at fun o q => (sb.2 it (Ne.symm n1)).trans q, n1, n2, n3⟩, fun b hb => ?_⟩
    · rw [show ((i + 1 : Nat) : Int) = (i : Int) + 1 by omega]
      exact he3
    · have lb : b < s.heap.objs.size := by
        rcases (show b = en ∨ b = it by simpa using hb) with rfl | rfl
        · exact l1
        · exact l2
      rw [upd_ne (Nat.ne_of_lt lb)]
      exact (hf b hb).1
  done := by
    intro X hP hw hK hc i pins s σ H E I hf stt hg
    subst hP hw hK
    obtain ⟨⟨old, he⟩, hit, n1, n2, n3⟩ := stt
    obtain ⟨xs, hq, hx⟩ := hg
    obtain ⟨its, rv, p, hz⟩ := I.tuple hq
    obtain ⟨f0, f1, f2, f3, f4, f5⟩ := hf it (by simp)
    have hl := rv.length
    refine en_stop (I.ok.hd hc) he hit p (by simp; omega) fun h2 eb => ⟨rfl, I.turned (t' := s.toks) (fun b o hb q => eb b o hb q) f0 f1 f3 f4 f5⟩
  self := fun A i s Q E stt h => by
    obtain ⟨⟨_, he⟩, _⟩ := stt
    exact wpAny_pyIter_enum he h
def iEnumT (K : PySem.W.Frag) (ta : TA) : TI := fun σ H R => ta σ H fun vs H1 => ∃ a xs, vs = [.ref a] ∧ SqT K H1 a xs ∧ R (IteT K a) H1
theorem pi_enumT {X : Cx} {e : Expr} {ta : TA} {p pos tpos : Pos} {elts : List Expr} {kk : Nat} (hg : Gl X "enumerate") (hm : X.mg "enumerate" = none) (ha : PA X [e] ta) (hs : starEach [e] X.env = [(false, eval e X.env)] := by rfl) :
    PI X (.Tuple elts kk tpos) (.Call (.Name "enumerate" p) [e] [] pos) (iEnumT X.K ta) := by
  constructor
  intro pins s σ H R I h
  refine Call_ (ld_blt I hg hm boot_enumerate (PyProof.Rows.callWith_type1 (thn (ha.run pos pins s σ H _ I h) fun us s1 hv => ?_) hs rfl))
  obtain ⟨vs, H1, I1, r1, a, xs, rfl, hq, q⟩ := hv
  cases r1 with
  | cons r rr =>
    cases rr
    cases r
    obtain ⟨its, rv, pt, hz⟩ := I1.tuple hq
    have ltA : a < s1.heap.objs.size := by
      obtain ⟨_, e1, _⟩ := id pt
      exact Heap.lt_size e1
    refine en_call (begins_tuple a its.toArray) pt fun h2 he hit hk => wpAny_pyIter_enum he ?_
    have I2 : Inv X pins σ H1 { s1 with heap := h2 } := I1.kept (t' := s1.toks) hk
    refine ⟨s1.heap.objs.size + 1, [s1.heap.objs.size + 1, s1.heap.objs.size], _, _, H1, rfl, I2, turn_enumT a (s1.heap.objs.size + 1) s1.heap.objs.size, ⟨⟨.none, he⟩, ⟨_, hit, rfl, rfl⟩, Nat.succ_ne_self _, Nat.ne_of_lt ltA, Nat.ne_of_lt (Nat.lt_succ_of_lt ltA)⟩, fun b hb => ?_, q⟩
    have low : s1.heap.objs.size ≤ b := by
      rcases (show b = s1.heap.objs.size + 1 ∨ b = s1.heap.objs.size by simpa using hb) with rfl | rfl
      · exact Nat.le_add_right _ _
      · exact Nat.le_refl _
    exact I1.fpOk low (I1.hok.fresh low)
/-! ## slices of a list with a step -/
theorem vals_pick {xs : List V} {its : List Value} (r : Vals xs its) : ∀ js : List Nat, Vals (js.filterMap fun j => xs[j]?) (js.filterMap fun j => its[j]?)
  | [] => .nil
  | j :: js => by
    have ih := vals_pick r js
    cases hx : xs[j]? with
    | none =>
      have l := r.length
      have hn : its[j]? = none := by
        rw [List.getElem?_eq_none_iff] at hx ⊢
        omega
      rw [List.filterMap_cons, List.filterMap_cons, hx, hn]
      exact ih
    | some x =>
      obtain ⟨u, hu, ru⟩ := r.get hx
      rw [List.filterMap_cons, List.filterMap_cons, hx, hu]
      exact .cons ru ih
def stepIx (c : Int) (n : Nat) : List Nat := sliceRange (sliceBounds none none (some c) n).1 (sliceBounds none none (some c) n).2.1 (sliceBounds none none (some c) n).2.2
def tStepL (K : PySem.W.Frag) (c : Int) (te : TE) : TE := fun σ H Q => te σ H fun x H1 => ∃ a xs, x = .ref a ∧ SqL K H1 a xs ∧ (stepIx c xs.length).length ≤ sizeLine ∧ ∀ p, H1 p = none → Q (.ref p) (upd H1 p (.lst ((stepIx c xs.length).filterMap fun j => xs[j]?)))
theorem step_core {X : Cx} {c : Int} {e se : Expr} {te : TE} {ts : TO} {p3 pos : Pos} (c0 : (some c : Option Int) ≠ some 0) (he : PE X e te) (hs : PO X (some se) ts) (hc : ∀ σ H (Q : Option Int → Hp → Prop), Q (some c) H → ts σ H Q)
    (hsub : ∀ l sl : Addr, subscripted (.Slice none none (some se) p3) false (.ref l) (.ref sl) = operate [.ref l, .ref sl] (getItem (.ref l) (.ref sl))) :
    PE X (.Subscript e (.Slice none none (some se) p3) pos) (tStepL X.K c te) := by
  constructor
  intro pins s σ H Q I h
  refine Subscript_ (thn (he.run pins s σ H _ I h) fun v s1 hv => ?_)
  obtain ⟨x, H1, I1, r1, a, xs, rfl, hx, hz, q⟩ := hv
  cases r1
  refine wpAny_Slice (thn (po_none.run pins s1 σ H1 (fun o G => o = none ∧ G = H1) I1 ⟨rfl, rfl⟩) fun vl s2 hl => ?_)
  obtain ⟨l, H2, I2, pl, rfl, rfl⟩ := hl
  refine thn (po_none.run pins s2 σ H2 (fun o G => o = none ∧ G = H2) I2 ⟨rfl, rfl⟩) fun vu s3 hu => ?_
  obtain ⟨u, H3, I3, pu, rfl, rfl⟩ := hu
  refine thn (hs.run pins s3 σ H3 (fun o G => o = some c ∧ G = H3) I3 (hc _ _ _ ⟨rfl, rfl⟩)) fun vs s4 ho => ?_
  obtain ⟨o, H4, I4, ps, rfl, rfl⟩ := ho
  have I5 : Inv X pins σ H4 { s4 with heap := s4.heap.push { cls := .type "slice", data := .fields #[vl, vu, vs] } } := I4.kept (t' := s4.toks) fun b ob z => Heap.get?_push_of_some _ z
  obtain ⟨its, r, ht, hz2⟩ := I5.list hx
  have hlen := r.length
  show wpAny (model X.prog X.w) X.A (subscriptTail e (.Slice none none (some se) p3) (.ref a) (.ref s4.heap.objs.size)) (EP X pins σ Q) X.xe { s4 with heap := s4.heap.push { cls := .type "slice", data := .fields #[vl, vu, vs] } }
  refine tail_any (ops := [.ref a, .ref s4.heap.objs.size]) ht.isList.typeIs (PySem.slot_list_getitem.lookup) ?_ (hsub _ _)
  refine wpAny_getItem_list_slice ht.isList (Heap.IsSliceOf.new _ vl vu vs) pl pu ps c0 ?_ (by rw [List.size_toArray]; omega)
  have ep : slicePick its.toArray none none (some c) = ((stepIx c xs.length).filterMap fun j => its[j]?).toArray := by
    unfold slicePick stepIx
    rw [List.size_toArray, hlen]
    simp
  rw [ep]
  have rp := vals_pick r (stepIx c xs.length)
  refine ⟨.ref _, _, I5.laid (t' := s4.toks) (o := .lst ((stepIx c xs.length).filterMap fun j => xs[j]?)) (fun b ob z => Heap.get?_push_of_some _ z) (Nat.le_refl _) ?_, rfl, q _ (I5.hok.fresh (Nat.le_refl _))⟩
  exact ⟨Nat.le_trans (List.length_filterMap_le ..) hz, _, 0, rp, Heap.get?_push_size _ rfl⟩
theorem pe_step2 {X : Cx} {e : Expr} {te : TE} {k : Nat} {p1 p3 pos : Pos} (he : PE X e te) : PE X (.Subscript e (.Slice none none (some (.Constant (.int 2) k p1)) p3) pos) (tStepL X.K 2 te) :=
  step_core (by decide) he (po_some pe_int) (fun σ H Q q => ⟨2, rfl, q⟩) fun l sl => by with_unfolding_all rfl
theorem pe_stepB {X : Cx} {e : Expr} {te : TE} {k : Nat} {p1 p2 p3 pos : Pos} (he : PE X e te) : PE X (.Subscript e (.Slice none none (some (.UnaryOp .USub (.Constant (.int 2) k p1) p2)) p3) pos) (tStepL X.K (-2) te) :=
  step_core (by decide) he (po_some (pe_un un_neg pe_int)) (fun σ H Q q => ⟨2, rfl, -2, rfl, q⟩) fun l sl => by with_unfolding_all rfl
/-- two lists, item by item -/
def inter {α : Type} : List α → List α → List α
  | a :: r, b :: s => a :: b :: inter r s
  | _, _ => []
theorem inter_len {α : Type} : ∀ {xs ys : List α}, xs.length = ys.length → (inter xs ys).length = 2 * xs.length
  | [], [], _ => rfl
  | a :: r, b :: s, h => by
    have := inter_len (xs := r) (ys := s) (by simpa using h)
    simp only [inter, List.length_cons]
    omega
theorem inter_app {α : Type} {a b : α} : ∀ {xs ys : List α}, xs.length = ys.length → inter (xs ++ [a]) (ys ++ [b]) = inter xs ys ++ [a, b]
  | [], [], _ => rfl
  | x :: r, y :: s, h => by
    have := inter_app (a := a) (b := b) (xs := r) (ys := s) (by simpa using h)
    simp only [inter, List.cons_append, this]
theorem inter_get {α : Type} : ∀ {xs ys : List α} (k : Nat), xs.length = ys.length → (inter xs ys)[2 * k]? = xs[k]? ∧ (inter xs ys)[2 * k + 1]? = ys[k]?
  | [], [], k, _ => by simp [inter]
  | a :: r, b :: s, 0, _ => by simp [inter]
  | a :: r, b :: s, k + 1, h => by
    have := inter_get (xs := r) (ys := s) k (by simpa using h)
    have e1 : 2 * (k + 1) = 2 * k + 1 + 1 := by omega
    rw [e1]
    simpa only [inter, List.getElem?_cons_succ] using this
theorem step2_ix (m : Nat) : stepIx 2 (2 * m) = (List.range m).map fun k => 2 * k := by
  show sliceRange 0 ((2 * m : Nat) : Int) 2 = _
  unfold sliceRange
  have e : (if (0 : Int) < ((2 * m : Nat) : Int) then (((2 * m : Nat) : Int) - 0 + 2 - 1) / 2 else 0).toNat = m := by
    split <;> omega
  simp only [show (2 : Int) > 0 from by decide, if_true, e]
  refine List.map_congr_left fun k _ => ?_
  omega
theorem stepB_ix (m : Nat) : stepIx (-2) (2 * m) = (List.range m).map fun k => 2 * (m - 1 - k) + 1 := by
  show sliceRange (((2 * m : Nat) : Int) - 1) (-1) (-2) = _
  unfold sliceRange
  have e : (if ((2 * m : Nat) : Int) - 1 > -1 then (((2 * m : Nat) : Int) - 1 - -1 - -2 - 1) / (- -2) else 0).toNat = m := by
    rw [show (- -2 : Int) = 2 by decide]
    split <;> omega
  simp only [show ¬ ((-2 : Int) > 0) from by decide, if_false, e]
  refine List.map_congr_left fun k hk => ?_
  have := List.mem_range.mp hk
  omega
theorem fmc0 {α β : Type} {f g : α → Option β} : ∀ {l : List α}, (∀ x ∈ l, f x = g x) → l.filterMap f = l.filterMap g
  | [], _ => rfl
  | x :: r, h => by
    rw [List.filterMap_cons, List.filterMap_cons, h x List.mem_cons_self, fmc0 fun y hy => h y (List.mem_cons_of_mem _ hy)]
theorem all_get {α : Type} : ∀ xs : List α, (List.range xs.length).filterMap (fun k => xs[k]?) = xs
  | [] => rfl
  | x :: r => by
    rw [List.length_cons, List.range_succ_eq_map, List.filterMap_cons, List.filterMap_map]
    show x :: (List.range r.length).filterMap (fun k => r[k]?) = _
    rw [all_get r]
theorem pick_even {α : Type} {xs ys : List α} (h : xs.length = ys.length) : ((stepIx 2 (inter xs ys).length).filterMap fun j => (inter xs ys)[j]?) = xs := by
  rw [inter_len h, step2_ix, List.filterMap_map]
  have : ((fun j => (inter xs ys)[j]?) ∘ fun k => 2 * k) = fun k => xs[k]? := funext fun k => (inter_get k h).1
  rw [this, all_get]
theorem pick_back {α : Type} {xs ys : List α} (h : xs.length = ys.length) : ((stepIx (-2) (inter xs ys).length).filterMap fun j => (inter xs ys)[j]?) = ys.reverse := by
  rw [inter_len h, stepB_ix, List.filterMap_map]
  have e1 : ((fun j => (inter xs ys)[j]?) ∘ fun k => 2 * (xs.length - 1 - k) + 1) = fun k => ys[ys.length - 1 - k]? := funext fun k => by
    rw [← h]
    exact (inter_get _ h).2
  have e2 : ys.reverse = (List.range xs.length).filterMap fun k => ys.reverse[k]? := by
    have := all_get ys.reverse
    rw [List.length_reverse, ← h] at this
    exact this.symm
  rw [e1, e2]
  refine fmc0 fun k hk => ?_
  rw [List.getElem?_reverse (by have := List.mem_range.mp hk; omega)]
end G

set_option Elab.async false
set_option linter.all false
set_option maxRecDepth 100000
set_option maxHeartbeats 2000000
namespace G
open PySem PySem.Spec PyProof.Rows L2
def top (i : Nat) : Stmt := PySem.Challenge.pw_fingerbooks_k36_whole_places_listed.main.body.getD i (.Pass ⟨0, 0, 0, 0⟩)
abbrev s_is_integer : Stmt := top 7
abbrev N_is_integer : List Str := ["value"]
theorem sc_is_integer : FnScope N_is_integer ["value"] (defScope s_is_integer) := ⟨rfl, rfl, rfl, by decide +kernel, rfl, by decide +kernel, by decide +kernel⟩
abbrev s_is_within : Stmt := top 8
abbrev N_is_within : List Str := ["value", "least", "greatest"]
theorem sc_is_within : FnScope N_is_within ["value", "least", "greatest"] (defScope s_is_within) := ⟨rfl, rfl, rfl, by decide +kernel, rfl, by decide +kernel, by decide +kernel⟩
abbrev s_is_pair : Stmt := top 12
abbrev N_is_pair : List Str := ["value"]
theorem sc_is_pair : FnScope N_is_pair ["value"] (defScope s_is_pair) := ⟨rfl, rfl, rfl, by decide +kernel, rfl, by decide +kernel, by decide +kernel⟩
abbrev s_is_pair_within : Stmt := top 13
abbrev N_is_pair_within : List Str := ["value", "least", "greatest"]
theorem sc_is_pair_within : FnScope N_is_pair_within ["value", "least", "greatest"] (defScope s_is_pair_within) := ⟨rfl, rfl, rfl, by decide +kernel, rfl, by decide +kernel, by decide +kernel⟩
abbrev s_is_form : Stmt := top 14
abbrev N_is_form : List Str := ["value"]
theorem sc_is_form : FnScope N_is_form ["value"] (defScope s_is_form) := ⟨rfl, rfl, rfl, by decide +kernel, rfl, by decide +kernel, by decide +kernel⟩
abbrev s_are_forms : Stmt := top 15
abbrev N_are_forms : List Str := ["value", "form"]
theorem sc_are_forms : FnScope N_are_forms ["value"] (defScope s_are_forms) := ⟨rfl, rfl, rfl, by decide +kernel, rfl, by decide +kernel, by decide +kernel⟩
abbrev s_is_row : Stmt := top 16
abbrev N_is_row : List Str := ["value"]
theorem sc_is_row : FnScope N_is_row ["value"] (defScope s_is_row) := ⟨rfl, rfl, rfl, by decide +kernel, rfl, by decide +kernel, by decide +kernel⟩
abbrev s_check_row : Stmt := top 17
abbrev N_check_row : List Str := ["row"]
theorem sc_check_row : FnScope N_check_row ["row"] (defScope s_check_row) := ⟨rfl, rfl, rfl, by decide +kernel, rfl, by decide +kernel, by decide +kernel⟩
abbrev s_check_arity : Stmt := top 18
abbrev N_check_arity : List Str := ["arity"]
theorem sc_check_arity : FnScope N_check_arity ["arity"] (defScope s_check_arity) := ⟨rfl, rfl, rfl, by decide +kernel, rfl, by decide +kernel, by decide +kernel⟩
abbrev s_length_of : Stmt := top 19
abbrev N_length_of : List Str := ["arity", "row", "left", "right"]
theorem sc_length_of : FnScope N_length_of ["arity", "row"] (defScope s_length_of) := ⟨rfl, rfl, rfl, by decide +kernel, rfl, by decide +kernel, by decide +kernel⟩
abbrev s_sides_of : Stmt := top 20
abbrev N_sides_of : List Str := ["arity", "row"]
theorem sc_sides_of : FnScope N_sides_of ["arity", "row"] (defScope s_sides_of) := ⟨rfl, rfl, rfl, by decide +kernel, rfl, by decide +kernel, by decide +kernel⟩
abbrev s_sums_of : Stmt := top 21
abbrev N_sums_of : List Str := ["arity", "row", "left_sum", "right_sum", "left", "right"]
theorem sc_sums_of : FnScope N_sums_of ["arity", "row"] (defScope s_sums_of) := ⟨rfl, rfl, rfl, by decide +kernel, rfl, by decide +kernel, by decide +kernel⟩
abbrev s_place_of : Stmt := top 24
abbrev N_place_of : List Str := ["arity", "row", "number"]
theorem sc_place_of : FnScope N_place_of ["arity", "row", "number"] (defScope s_place_of) := ⟨rfl, rfl, rfl, by decide +kernel, rfl, by decide +kernel, by decide +kernel⟩
abbrev s__check_number : Stmt := top 25
abbrev N__check_number : List Str := ["arity", "row", "number"]
theorem sc__check_number : FnScope N__check_number ["arity", "row", "number"] (defScope s__check_number) := ⟨rfl, rfl, rfl, by decide +kernel, rfl, by decide +kernel, by decide +kernel⟩
abbrev s__place_at : Stmt := top 26
abbrev N__place_at : List Str := ["arity", "row", "number", "level", "side", "begin", "_", "index", "path", "span"]
theorem sc__place_at : FnScope N__place_at ["arity", "row", "number"] (defScope s__place_at) := ⟨rfl, rfl, rfl, by decide +kernel, rfl, by decide +kernel, by decide +kernel⟩
abbrev s_number_of : Stmt := top 27
abbrev N_number_of : List Str := ["arity", "row", "place", "level", "side", "index", "path", "part", "begins", "span"]
theorem sc_number_of : FnScope N_number_of ["arity", "row", "place"] (defScope s_number_of) := ⟨rfl, rfl, rfl, by decide +kernel, rfl, by decide +kernel, by decide +kernel⟩
abbrev s_is_place : Stmt := top 28
abbrev N_is_place : List Str := ["arity", "row", "value", "level", "side", "index", "path", "part"]
theorem sc_is_place : FnScope N_is_place ["arity", "row", "value"] (defScope s_is_place) := ⟨rfl, rfl, rfl, by decide +kernel, rfl, by decide +kernel, by decide +kernel⟩
abbrev s_spans : Stmt := top 29
abbrev N_spans : List Str := ["arity", "row"]
theorem sc_spans : FnScope N_spans ["arity", "row"] (defScope s_spans) := ⟨rfl, rfl, rfl, by decide +kernel, rfl, by decide +kernel, by decide +kernel⟩
abbrev s__spans : Stmt := top 30
abbrev N__spans : List Str := ["arity", "row", "sizes", "weight", "level", "left", "right", "found", "begin", "side", "size"]
theorem sc__spans : FnScope N__spans ["arity", "row"] (defScope s__spans) := ⟨rfl, rfl, rfl, by decide +kernel, rfl, by decide +kernel, by decide +kernel⟩
abbrev s_beside : Stmt := top 31
abbrev N_beside : List Str := ["arity", "row", "place", "number", "ahead", "behind"]
theorem sc_beside : FnScope N_beside ["arity", "row", "place"] (defScope s_beside) := ⟨rfl, rfl, rfl, by decide +kernel, rfl, by decide +kernel, by decide +kernel⟩
abbrev s_outward : Stmt := top 32
abbrev N_outward : List Str := ["arity", "row", "number"]
theorem sc_outward : FnScope N_outward ["arity", "row", "number"] (defScope s_outward) := ⟨rfl, rfl, rfl, by decide +kernel, rfl, by decide +kernel, by decide +kernel⟩
abbrev s__law_dice : Stmt := top 34
abbrev N__law_dice : List Str := ["_law_script", "_law_spot", "_law_cell", "_law_left"]
theorem sc__law_dice : FnScope N__law_dice ["_law_script", "_law_spot"] (defScope s__law_dice) := ⟨rfl, rfl, rfl, by decide +kernel, rfl, by decide +kernel, by decide +kernel⟩
abbrev s__law_roll : Stmt := top 35
abbrev N__law_roll : List Str := ["_law_dice_here", "_law_total", "_law_found", "_law_one", "_law_two"]
theorem sc__law_roll : FnScope N__law_roll ["_law_dice_here", "_law_total"] (defScope s__law_roll) := ⟨rfl, rfl, rfl, by decide +kernel, rfl, by decide +kernel, by decide +kernel⟩
abbrev s__law_cut : Stmt := top 36
abbrev N__law_cut : List Str := ["_law_forms", "_law_found"]
theorem sc__law_cut : FnScope N__law_cut ["_law_forms"] (defScope s__law_cut) := ⟨rfl, rfl, rfl, by decide +kernel, rfl, by decide +kernel, by decide +kernel⟩
abbrev s__law_some_form : Stmt := top 37
abbrev N__law_some_form : List Str := ["_law_dice_here", "_law_high"]
theorem sc__law_some_form : FnScope N__law_some_form ["_law_dice_here", "_law_high"] (defScope s__law_some_form) := ⟨rfl, rfl, rfl, by decide +kernel, rfl, by decide +kernel, by decide +kernel⟩
abbrev s__law_some_row : Stmt := top 38
abbrev N__law_some_row : List Str := ["_law_dice_here", "_law_levels", "_law_high", "_law_forms", "_law_turn", "_law_form"]
theorem sc__law_some_row : FnScope N__law_some_row ["_law_dice_here", "_law_levels", "_law_high"] (defScope s__law_some_row) := ⟨rfl, rfl, rfl, by decide +kernel, rfl, by decide +kernel, by decide +kernel⟩
abbrev s__law_paths : Stmt := top 39
abbrev N__law_paths : List Str := ["_law_arity", "_law_level", "_law_found", "_law_turn"]
theorem sc__law_paths : FnScope N__law_paths ["_law_arity", "_law_level"] (defScope s__law_paths) := ⟨rfl, rfl, rfl, by decide +kernel, rfl, by decide +kernel, by decide +kernel⟩
abbrev s__law_longer : Stmt := top 40
abbrev N__law_longer : List Str := ["_law_paths_here", "_law_arity", "_law_found", "_law_path", "_law_part"]
theorem sc__law_longer : FnScope N__law_longer ["_law_paths_here", "_law_arity"] (defScope s__law_longer) := ⟨rfl, rfl, rfl, by decide +kernel, rfl, by decide +kernel, by decide +kernel⟩
abbrev s__law_side_places : Stmt := top 41
abbrev N__law_side_places : List Str := ["_law_arity", "_law_level", "_law_side", "_law_many", "_law_found", "_law_index", "_law_path"]
theorem sc__law_side_places : FnScope N__law_side_places ["_law_arity", "_law_level", "_law_side", "_law_many"] (defScope s__law_side_places) := ⟨rfl, rfl, rfl, by decide +kernel, rfl, by decide +kernel, by decide +kernel⟩
abbrev s__law_all_places : Stmt := top 42
abbrev N__law_all_places : List Str := ["_law_arity", "_law_row", "_law_found", "_law_level"]
theorem sc__law_all_places : FnScope N__law_all_places ["_law_arity", "_law_row"] (defScope s__law_all_places) := ⟨rfl, rfl, rfl, by decide +kernel, rfl, by decide +kernel, by decide +kernel⟩
abbrev s__law_span_list : Stmt := top 43
abbrev N__law_span_list : List Str := ["_law_places", "_law_found", "_law_number", "_law_place"]
theorem sc__law_span_list : FnScope N__law_span_list ["_law_places"] (defScope s__law_span_list) := ⟨rfl, rfl, rfl, by decide +kernel, rfl, by decide +kernel, by decide +kernel⟩
abbrev s__law_right : Stmt := top 44
abbrev N__law_right : List Str := ["_law_dice_here", "_law_arity", "_law_row", "_law_places", "_law_number", "_law_place", "_law_ahead", "_law_later", "_law_told"]
theorem sc__law_right : FnScope N__law_right ["_law_dice_here", "_law_arity"] (defScope s__law_right) := ⟨rfl, rfl, rfl, by decide +kernel, rfl, by decide +kernel, by decide +kernel⟩
abbrev s_law : Stmt := top 45
abbrev N_law : List Str := ["_law_script", "_law_spot", "_law_dice_here", "_law_row", "_law_due", "_law_told"]
theorem sc_law : FnScope N_law ["_law_script"] (defScope s_law) := ⟨rfl, rfl, rfl, by decide +kernel, rfl, by decide +kernel, by decide +kernel⟩
structure Txt (K : PySem.W.Frag) (mg : Str → Option Value) : Prop where
  isinstance : mg "isinstance" = none
  int : mg "int" = none
  bool : mg "bool" = none
  tuple : mg "tuple" = none
  list : mg "list" = none
  len : mg "len" = none
  max : mg "max" = none
  min : mg "min" = none
  abs : mg "abs" = none
  all : mg "all" = none
  range : mg "range" = none
  repr : mg "repr" = none
  enumerate : mg "enumerate" = none
  g_TOO_GREAT : ∃ u, mg "_TOO_GREAT" = some u ∧ RelV (.int BIG) u
  gMAX_SIDE : ∃ u, mg "MAX_SIDE" = some u ∧ RelV (.int 7) u
  gMAX_LEVELS : ∃ u, mg "MAX_LEVELS" = some u ∧ RelV (.int 200) u
/-! ## the dice -/
section
variable {P : Program} {w : World} {K : PySem.W.Frag} {mg : Str → Option Value} {base : Heap}
theorem c_dice (T : Txt K mg) (D : DefAt K mg "_law_dice" s__law_dice ["_law_script", "_law_spot"]) : CalG P w K mg base 1 "_law_dice" ["_law_script", "_law_spot"] (spDice K) := by
  refine calOk D sc__law_dice (fun xs H Q E h => ?_) (fun f cdv A out s H xs Q E hgd hr h => ?_)
  · obtain ⟨a, ns, i, rfl, _⟩ := h
    rfl
  · obtain ⟨a, ns, i, rfl, hS, hz, k⟩ := h
    have nd := sc__law_dice.nd
    refine ⟨_, (pss_cons (ps_set (i := 2) nd rfl (.inl rfl) (pe_ifExp (pt_cmpR op_lt (pv 1) (pe_callB call_len_seq (by rfl) T.len (by decide +kernel) (pa_cons (pv 0) pa_nil)) (nomark _)) (pe_callTy call_int1 (by rfl) T.int (by decide +kernel) (pa_cons (pe_ix ix_list (pv 0) (pv 1) (fun _ _ => rfl)) pa_nil)) (pe_op op_add (pe_op op_mul pe_int (pv 1)) pe_int)))
      (pss_cons (ps_set (i := 3) nd rfl (.inl rfl) (pe_op op_mod (pe_callB (call_max2 rfl) (by rfl) T.max (by decide +kernel) (pa_cons pe_int (pa_cons (pe_op op_sub (pe_callB call_abs (by rfl) T.abs (by decide +kernel) (pa_cons (pv 2) pa_nil)) (pe_op op_pow pe_int pe_int)) pa_nil))) (pe_op op_mulW (pe_op op_pow pe_int pe_int) (pe_op op_pow pe_int pe_int))))
      (pss_one (ps_ret (pe_lst (pa_cons (pv 3) (pa_cons (pe_op op_add (pe_op op_add (pe_op op_add (pe_op op_mul (pe_op op_mod (pe_callB call_abs (by rfl) T.abs (by decide +kernel) (pa_cons (pv 2) pa_nil)) pe_int) pe_int) (pe_op op_mul pe_int (pv 1))) (pe_op op_mul pe_int (pe_callTy call_int1 (by rfl) T.int (by decide +kernel) (pa_cons (pe_cmpR op_lt (pv 2) pe_int (nomark _)) pa_nil)))) pe_int) (pa_cons pe_int pa_nil)))))))), ?_⟩
    refine ⟨_, rfl, _, rfl, _, _, rfl, .inl hS, _, _, rfl, rfl, _, rfl, ite2 (fun hi => ?_) (fun hi => ?_)⟩
    · have hlt : i < ns.length := by
        have := of_decide_eq_true hi
        rw [List.length_map] at this
        omega
      have hat : (ns.map V.int)[i]? = some (.int ns[i]) := by
        rw [List.getElem?_map, List.getElem?_eq_getElem hlt]
        rfl
      refine ⟨_, rfl, _, rfl, _, _, _, _, rfl, rfl, hS, atI_nat hat, .inl ⟨_, rfl, ?_⟩⟩
      refine ⟨_, rfl, _, rfl, _, _, rfl, rfl, ⟨by decide, by decide, by decide⟩, _, _, rfl, rfl, _, _, rfl, _, _, rfl, rfl, ⟨by decide, by decide, by decide⟩, _, _, rfl, rfl, ⟨by decide, by decide, by decide⟩, _, _, rfl, rfl, mul60, _, _, rfl, rfl, pos60, ?_⟩
      refine ⟨_, rfl, _, rfl, _, rfl, _, _, rfl, rfl, (by show (0 : Int) < 1152921504606846961; decide), _, _, rfl, rfl, .inr ⟨by decide, by decide⟩, _, rfl, _, _, rfl, rfl, .inl ⟨by decide, by decide⟩, _, _, rfl, rfl, _, rfl, _, _, rfl, rfl, .inr ⟨_, rfl, _, _, rfl, rfl, .inl ⟨by decide, by decide⟩, _, _, rfl, rfl, _, _, rfl, rfl, (by show 3 ≤ sizeLine; decide), fun p1 n1 => ?_⟩⟩
      exact k _ _ _ _ n1
    · refine ⟨_, rfl, _, _, rfl, rfl, .inl ⟨by decide, by decide⟩, _, _, rfl, rfl, ?_⟩
      refine ⟨_, rfl, _, rfl, _, _, rfl, rfl, ⟨by decide, by decide, by decide⟩, _, _, rfl, rfl, _, _, rfl, _, _, rfl, rfl, ⟨by decide, by decide, by decide⟩, _, _, rfl, rfl, ⟨by decide, by decide, by decide⟩, _, _, rfl, rfl, mul60, _, _, rfl, rfl, pos60, ?_⟩
      refine ⟨_, rfl, _, rfl, _, rfl, _, _, rfl, rfl, (by show (0 : Int) < 1152921504606846961; decide), _, _, rfl, rfl, .inr ⟨by decide, by decide⟩, _, rfl, _, _, rfl, rfl, .inl ⟨by decide, by decide⟩, _, _, rfl, rfl, _, rfl, _, _, rfl, rfl, .inr ⟨_, rfl, _, _, rfl, rfl, .inl ⟨by decide, by decide⟩, _, _, rfl, rfl, _, _, rfl, rfl, (by show 3 ≤ sizeLine; decide), fun p1 n1 => ?_⟩⟩
      exact k _ _ _ _ n1
theorem c_roll (T : Txt K mg) (D : DefAt K mg "_law_roll" s__law_roll ["_law_dice_here", "_law_total"]) : CalG P w K mg base 1 "_law_roll" ["_law_dice_here", "_law_total"] spRoll := by
  refine calOk D sc__law_roll (fun xs H Q E h => ?_) (fun f cdv A out s H xs Q E hgd hr h => ?_)
  · obtain ⟨d, t, rfl, _⟩ := h
    rfl
  · obtain ⟨d, t, rfl, ⟨l, sd, c, hd⟩, ht, hlog, k⟩ := h
    have nd := sc__law_roll.nd
    have fr : ∀ (u : HO) (b : Addr), H b = none → upd H d u b = none := fun u b e => by
      rw [upd_ne (fun q => by rw [q, hd] at e; cases e)]
      exact e
    refine ⟨_, (pss_cons (ps_if (pt_cmpR op_gt (pe_ix ix_list (pv 0) pe_int (fun _ _ => rfl)) pe_int (nomark _)) (pss_cons (ps_set (i := 2) nd rfl (.inl rfl) (pe_op op_mod (pe_callTy call_int1 (by rfl) T.int (by decide +kernel) (pa_cons (pe_ix ix_list (pv 0) pe_int (fun _ _ => rfl)) pa_nil)) (pv 1)))
        (pss_cons (ps_asg (pe_op op_fdivW (pe_ix ix_list (pv 0) pe_int (fun _ _ => rfl)) (pv 1)) (pg_sub (pv 0) pe_int set_list))
        (pss_one (ps_ret (pv 2))))) pss_nil)
      (pss_cons (ps_asg (pe_op op_add (pe_ix ix_list (pv 0) pe_int (fun _ _ => rfl)) pe_int) (pg_sub (pv 0) pe_int set_list))
      (pss_cons (ps_set (i := 3) nd rfl (.inl rfl) (pe_op op_mod (pe_callTy call_int1 (by rfl) T.int (by decide +kernel) (pa_cons (pe_op op_add (pe_ix ix_list (pv 0) pe_int (fun _ _ => rfl)) (pe_op op_mul pe_int (pe_ix ix_list (pv 0) pe_int (fun _ _ => rfl)))) pa_nil)) pe_int))
      (pss_cons (ps_set (i := 4) nd rfl (.inl rfl) (pe_op op_add (pe_op op_mul (pe_op op_mod (pe_callTy call_int1 (by rfl) T.int (by decide +kernel) (pa_cons (pe_op op_add (pe_op op_mulW (pv 3) (pv 3)) (pe_op op_mul pe_int (pe_ix ix_list (pv 0) pe_int (fun _ _ => rfl)))) pa_nil)) pe_int) pe_int) (pv 3)))
      (pss_one (ps_ret (pe_op op_mod (pe_callTy call_int1 (by rfl) T.int (by decide +kernel) (pa_cons (pe_op op_fdivW (pv 4) pe_int) pa_nil)) (pv 1)))))))), ?_⟩
    refine ⟨_, rfl, _, _, _, _, rfl, rfl, SqL.of hd, atI_nat (j := 0) rfl, _, _, rfl, rfl, _, rfl, ite2 (fun hl => ?_) (fun hl => ?_)⟩
    · refine ⟨_, rfl, _, _, _, _, rfl, rfl, SqL.of hd, atI_nat (j := 0) rfl, .inl ⟨_, rfl, _, rfl, _, _, rfl, rfl, ht, ?_⟩⟩
      refine ⟨_, rfl, _, _, _, _, rfl, rfl, SqL.of hd, atI_nat (j := 0) rfl, _, rfl, _, _, rfl, rfl, ⟨ht, hlog⟩, _, rfl, _, _, _, 0, rfl, rfl, hd, rfl, ?_⟩
      refine ⟨_, rfl, ?_⟩
      exact k _ _ (Int.emod_nonneg _ (by omega)) (Int.emod_lt_of_pos _ ht) (Mv.refl ⟨l, sd, c, hd⟩).rolled (fr _)
    · refine ⟨_, rfl, _, _, _, _, rfl, rfl, SqL.of hd, atI_nat (j := 2) rfl, _, _, rfl, rfl, _, rfl, _, _, _, 2, rfl, rfl, hd, rfl, ?_⟩
      have h1 : upd H d (.lst [.int l, .int sd, .int (c + 1)]) d = some (.lst [.int l, .int sd, .int (c + 1)]) := upd_same
      refine ⟨_, rfl, _, _, _, _, rfl, rfl, SqL.of h1, atI_nat (j := 1) rfl, _, rfl, _, _, _, _, rfl, rfl, SqL.of h1, atI_nat (j := 2) rfl, _, _, rfl, rfl, .inl ⟨by decide, by decide⟩, _, _, rfl, rfl, .inl ⟨_, rfl, _, _, rfl, rfl, (by show (0 : Int) < 2305843009213693669; decide), ?_⟩⟩
      have hb := Int.emod_lt_of_pos (sd + 32452843 * (c + 1)) (show (0 : Int) < 2305843009213693669 by decide)
      have hn := Int.emod_nonneg (sd + 32452843 * (c + 1)) (show (2305843009213693669 : Int) ≠ 0 by decide)
      have hs : ((sd + 32452843 * (c + 1)) % 2305843009213693669).natAbs < 2 ^ 62 := by
        have e : (2 : Nat) ^ 62 = 4611686018427387904 := by decide
        omega
      refine ⟨_, rfl, _, rfl, _, _, rfl, rfl, wide_mul hs hs (by decide) (by decide) (by decide), _, rfl, _, _, _, _, rfl, rfl, SqL.of h1, atI_nat (j := 2) rfl, _, _, rfl, rfl, .inl ⟨by decide, by decide⟩, _, _, rfl, rfl, .inl ⟨_, rfl, _, _, rfl, rfl, (by show (0 : Int) < 1152921504606846869; decide), _, _, rfl, rfl, .inr ⟨by decide, by decide⟩, _, rfl, _, _, rfl, rfl, ?_⟩⟩
      refine ⟨_, rfl, _, _, rfl, rfl, ⟨by decide, by decide +kernel⟩, .inl ⟨_, rfl, _, rfl, _, _, rfl, rfl, ht, ?_⟩⟩
      exact k _ _ (Int.emod_nonneg _ (by omega)) (Int.emod_lt_of_pos _ ht) (Mv.refl ⟨l, sd, c, hd⟩).rolled (fr _)
end

/-! ## is_integer, is_pair, is_form, are_forms, is_row: judges over data -/
section
variable {P : Program} {w : World} {K : PySem.W.Frag} {mg : Str → Option Value} {base : Heap}
theorem c_is_integer (T : Txt K mg) (D : DefAt K mg "is_integer" s_is_integer ["value"]) : CalG P w K mg base 1 "is_integer" ["value"] (spJ intB) := by
  refine calOk D sc_is_integer (fun xs H Q E h => ?_) (fun f cdv A out s H xs Q E hgd hr h => ?_)
  · obtain ⟨x, d, rfl, _⟩ := h
    rfl
  · obtain ⟨x, d, rfl, hx, k⟩ := h
    have nd := sc_is_integer.nd
    refine ⟨_, (pss_one (ps_ret (pe_and (pe_callB call_isi (by rfl) T.isinstance (by decide +kernel) (pa_cons (pv 0) (pa_cons (pe_ty "int" rfl T.int (by decide +kernel)) pa_nil))) (pe_and (pe_not (pe_callB call_isi (by rfl) T.isinstance (by decide +kernel) (pa_cons (pv 0) (pa_cons (pe_ty "bool" rfl T.bool (by decide +kernel)) pa_nil)))) (pe_one (pe_chain op_lt op_lt (pe_un un_neg (pe_gv rfl T.g_TOO_GREAT)) (pv 0) (pe_gv rfl T.g_TOO_GREAT))))))), ?_⟩
    cases hx with
    | int i =>
      have k' : Q (.bl (smallB i)) H := k H (Same.refl _)
      refine ⟨_, rfl, _, _, _, _, true, rfl, .ty _, .base (.int i), kit_ty (by decide +kernel), true, rfl, iteT ?_⟩
      refine ⟨_, rfl, _, _, _, _, false, rfl, .ty _, .base (.int i), kit_ty (by decide +kernel), false, rfl, true, rfl, iteT ?_⟩
      refine ⟨_, rfl, _, rfl, _, _, rfl, rfl, _, rfl, ite2 (fun h1 => ?_) (fun h1 => ?_)⟩
      · refine ⟨_, _, rfl, rfl, ?_⟩
        have e : smallB i = decide (i < BIG) := by
          unfold smallB
          rw [h1]
          rfl
        rw [e] at k'
        exact k'
      · have e : smallB i = false := by
          unfold smallB
          rw [Bool.eq_false_iff.mpr h1]
          rfl
        rw [e] at k'
        exact k'
    | bl b =>
      refine ⟨_, rfl, _, _, _, _, true, rfl, .ty _, .base (.bl b), kit_ty (by decide +kernel), true, rfl, iteT ?_⟩
      refine ⟨_, rfl, _, _, _, _, true, rfl, .ty _, .base (.bl b), kit_ty (by decide +kernel), true, rfl, false, rfl, iteF ?_⟩
      exact k H (Same.refl _)
    | non => exact ⟨_, rfl, _, _, _, _, false, rfl, .ty _, Dx.ty .non, kit_ty (by decide +kernel), false, rfl, iteF (k H (Same.refl _))⟩
    | str x => exact ⟨_, rfl, _, _, _, _, false, rfl, .ty _, Dx.ty (.str x), kit_ty (by show kitB "str" _ = _; decide +kernel), false, rfl, iteF (k H (Same.refl _))⟩
    | lst h1 h2 => exact ⟨_, rfl, _, _, _, _, false, rfl, .ty _, Dx.ty (.lst h1 h2), kit_ty (by show kitB "list" _ = _; decide +kernel), false, rfl, iteF (k H (Same.refl _))⟩
    | tup h1 h2 => exact ⟨_, rfl, _, _, _, _, false, rfl, .ty _, Dx.ty (.tup h1 h2), kit_ty (by show kitB "tuple" _ = _; decide +kernel), false, rfl, iteF (k H (Same.refl _))⟩
    | dct h1 h2 => exact ⟨_, rfl, _, _, _, _, false, rfl, .ty _, Dx.ty (.dct h1 h2), kit_ty (by show kitB "dict" _ = _; decide +kernel), false, rfl, iteF (k H (Same.refl _))⟩
theorem c_is_pair (T : Txt K mg) (C_is_integer : CalG P w K mg base 1 "is_integer" ["value"] (spJ intB)) (D : DefAt K mg "is_pair" s_is_pair ["value"]) : CalG P w K mg base 2 "is_pair" ["value"] (spJ pairB) := by
  refine calOk D sc_is_pair (fun xs H Q E h => ?_) (fun f cdv A out s H xs Q E hgd hr h => ?_)
  · obtain ⟨x, d, rfl, _⟩ := h
    rfl
  · obtain ⟨x, d, rfl, hx, k⟩ := h
    have nd := sc_is_pair.nd
    refine ⟨_, (pss_one (ps_ret (pe_and (pe_callB call_isi (by rfl) T.isinstance (by decide +kernel) (pa_cons (pv 0) (pa_cons (pe_ty "tuple" rfl T.tuple (by decide +kernel)) pa_nil))) (pe_and (pe_cmpR op_eq (pe_callB call_len_seq (by rfl) T.len (by decide +kernel) (pa_cons (pv 0) pa_nil)) pe_int (nomark _)) (pe_and (pe_k C_is_integer hgd hr (by decide) rfl (pa_cons (pe_ix ix_tup (pv 0) pe_int (fun _ _ => rfl)) pa_nil)) (pe_one (pe_k C_is_integer hgd hr (by decide) rfl (pa_cons (pe_ix ix_tup (pv 0) pe_int (fun _ _ => rfl)) pa_nil)))))))), ?_⟩
    cases hx with
    | tup h1 h2 =>
      rename_i a xs ds
      have hl := h2.len
      refine ⟨_, rfl, _, _, _, _, true, rfl, .ty _, Dx.ty (.tup h1 h2), kit_ty (by show kitB "tuple" _ = _; decide +kernel), true, rfl, iteT ?_⟩
      refine ⟨_, rfl, _, _, rfl, .inr (SqT.of h1), rfl, _, rfl, ite2 (fun q => ?_) (fun q => ?_)⟩
      · have two : xs.length = 2 := by
          have := V.int.inj (of_decide_eq_true q)
          omega
        cases h2 with
        | nil => cases two
        | cons y1 r1 =>
          cases r1 with
          | nil => cases two
          | cons y2 r2 =>
            cases r2 with
            | cons _ _ => simp at two
            | nil =>
              refine ⟨_, rfl, _, _, _, _, rfl, rfl, SqT.of h1, atI_nat (j := 0) rfl, _, _, rfl, y1, fun H1 s1 => ?_⟩
              refine ⟨_, rfl, ite2 (fun q1 => ?_) (fun q1 => ?_)⟩
              · refine ⟨_, rfl, _, _, _, _, rfl, rfl, SqT.of (s1 _ _ h1), atI_nat (j := 1) rfl, _, _, rfl, y2.grow s1, fun H2 s2 => ?_⟩
                have e := k H2 (s1.trans s2)
                simp only [pairB, q1, Bool.true_and] at e
                exact e
              · have e := k H1 s1
                simp only [pairB, Bool.eq_false_iff.mpr q1, Bool.false_and] at e
                exact e
      · have e := k H (Same.refl _)
        have nf : pairB (.tuple ds) = false := by
          match ds, hl with
          | [], _ => rfl
          | [_], _ => rfl
          | [_, _], hl => exact absurd (decide_eq_true (show V.int (xs.length : Int) = V.int 2 by rw [hl]; rfl)) q
          | _ :: _ :: _ :: _, _ => rfl
        rw [nf] at e
        exact e
    | int i => exact ⟨_, rfl, _, _, _, _, false, rfl, .ty _, Dx.ty (.int i), kit_ty (by show kitB "int" _ = _; decide +kernel), false, rfl, iteF (k H (Same.refl _))⟩
    | bl b => exact ⟨_, rfl, _, _, _, _, false, rfl, .ty _, Dx.ty (.bl b), kit_ty (by show kitB "bool" _ = _; decide +kernel), false, rfl, iteF (k H (Same.refl _))⟩
    | non => exact ⟨_, rfl, _, _, _, _, false, rfl, .ty _, Dx.ty .non, kit_ty (by decide +kernel), false, rfl, iteF (k H (Same.refl _))⟩
    | str x => exact ⟨_, rfl, _, _, _, _, false, rfl, .ty _, Dx.ty (.str x), kit_ty (by show kitB "str" _ = _; decide +kernel), false, rfl, iteF (k H (Same.refl _))⟩
    | lst h1 h2 => exact ⟨_, rfl, _, _, _, _, false, rfl, .ty _, Dx.ty (.lst h1 h2), kit_ty (by show kitB "list" _ = _; decide +kernel), false, rfl, iteF (k H (Same.refl _))⟩
    | dct h1 h2 => exact ⟨_, rfl, _, _, _, _, false, rfl, .ty _, Dx.ty (.dct h1 h2), kit_ty (by show kitB "dict" _ = _; decide +kernel), false, rfl, iteF (k H (Same.refl _))⟩
theorem form_pair {d : PyData} (h : formB d = true) : pairB d = true := by
  match d, h with
  | .tuple [.int a, .int b], h =>
    have h' : (decide (0 ≤ a) && decide (a ≤ 7)) = true ∧ (decide (0 ≤ b) && decide (b ≤ 7)) = true := by simpa [formB, sideB] using h
    have g : ∀ i : Int, (decide (0 ≤ i) && decide (i ≤ 7)) = true → smallB i = true := fun i q => by
      have q' : 0 ≤ i ∧ i ≤ 7 := by simpa using q
      unfold smallB BIG
      rw [decide_eq_true (by omega), decide_eq_true (by omega)]
      rfl
    show (smallB a && smallB b) = true
    rw [g a h'.1, g b h'.2]
    rfl
  | .tuple [.none, _], h => simp [formB, sideB] at h
  | .tuple [.bool _, _], h => simp [formB, sideB] at h
  | .tuple [.str _, _], h => simp [formB, sideB] at h
  | .tuple [.list _, _], h => simp [formB, sideB] at h
  | .tuple [.tuple _, _], h => simp [formB, sideB] at h
  | .tuple [.dict _, _], h => simp [formB, sideB] at h
  | .tuple [.int _, .none], h => simp [formB, sideB] at h
  | .tuple [.int _, .bool _], h => simp [formB, sideB] at h
  | .tuple [.int _, .str _], h => simp [formB, sideB] at h
  | .tuple [.int _, .list _], h => simp [formB, sideB] at h
  | .tuple [.int _, .tuple _], h => simp [formB, sideB] at h
  | .tuple [.int _, .dict _], h => simp [formB, sideB] at h
  | .tuple [], h => simp [formB] at h
  | .tuple [_], h => simp [formB] at h
  | .tuple (_ :: _ :: _ :: _), h => simp [formB] at h
  | .none, h => simp [formB] at h
  | .bool _, h => simp [formB] at h
  | .int _, h => simp [formB] at h
  | .str _, h => simp [formB] at h
  | .list _, h => simp [formB] at h
  | .dict _, h => simp [formB] at h
theorem pair_ints {d : PyData} (h : pairB d = true) : ∃ a b, d = .tuple [.int a, .int b] := by
  match d, h with
  | .tuple [a, b], h =>
    have h' : intB a = true ∧ intB b = true := by simpa [pairB] using h
    match a, b, h' with
    | .int i, .int j, _ => exact ⟨i, j, rfl⟩
    | .none, _, h => simp [intB] at h
    | .bool _, _, h => simp [intB] at h
    | .str _, _, h => simp [intB] at h
    | .list _, _, h => simp [intB] at h
    | .tuple _, _, h => simp [intB] at h
    | .dict _, _, h => simp [intB] at h
    | .int _, .none, h => simp [intB] at h
    | .int _, .bool _, h => simp [intB] at h
    | .int _, .str _, h => simp [intB] at h
    | .int _, .list _, h => simp [intB] at h
    | .int _, .tuple _, h => simp [intB] at h
    | .int _, .dict _, h => simp [intB] at h
  | .tuple [], h => simp [pairB] at h
  | .tuple [_], h => simp [pairB] at h
  | .tuple (_ :: _ :: _ :: _), h => simp [pairB] at h
  | .none, h => simp [pairB] at h
  | .bool _, h => simp [pairB] at h
  | .int _, h => simp [pairB] at h
  | .str _, h => simp [pairB] at h
  | .list _, h => simp [pairB] at h
  | .dict _, h => simp [pairB] at h
def within (d : PyData) (lo hi : Int) : Bool := intB d && match d with
  | .int i => decide (lo ≤ i) && decide (i ≤ hi)
  | _ => false
def spWithin : Sp := fun vs H Q _ => ∃ (x : V) (d : PyData) (lo hi : Int), vs = [x, .int lo, .int hi] ∧ Dx H x d ∧ ∀ H', Same H H' → Q (.bl (within d lo hi)) H'
theorem int_of {d : PyData} (h : intB d = true) : ∃ i, d = .int i := by
  match d, h with
  | .int i, _ => exact ⟨i, rfl⟩
  | .none, h => simp [intB] at h
  | .bool _, h => simp [intB] at h
  | .str _, h => simp [intB] at h
  | .list _, h => simp [intB] at h
  | .tuple _, h => simp [intB] at h
  | .dict _, h => simp [intB] at h
theorem c_is_within (T : Txt K mg) (C_is_integer : CalG P w K mg base 1 "is_integer" ["value"] (spJ intB)) (D : DefAt K mg "is_within" s_is_within ["value", "least", "greatest"]) : CalG P w K mg base 2 "is_within" ["value", "least", "greatest"] spWithin := by
  refine calOk D sc_is_within (fun xs H Q E h => ?_) (fun f cdv A out s H xs Q E hgd hr h => ?_)
  · obtain ⟨x, d, lo, hi, rfl, _⟩ := h
    rfl
  · obtain ⟨x, d, lo, hi, rfl, hx, k⟩ := h
    have nd := sc_is_within.nd
    refine ⟨_, (pss_one (ps_ret (pe_and (pe_k C_is_integer hgd hr (by decide) rfl (pa_cons (pv 0) pa_nil)) (pe_one (pe_chain op_le op_le (pv 1) (pv 0) (pv 2)))))), ?_⟩
    refine ⟨_, rfl, _, _, rfl, hx, fun H1 s1 => ⟨_, rfl, ite2 (fun q => ?_) (fun q => ?_)⟩⟩
    · obtain ⟨i, rfl⟩ := int_of q
      cases hx
      have e := k H1 s1
      unfold within at e
      rw [q, Bool.true_and] at e
      replace e : Q (.bl (decide (lo ≤ i) && decide (i ≤ hi))) H1 := e
      refine ⟨_, rfl, _, rfl, _, _, rfl, rfl, _, rfl, ite2 (fun q1 => ?_) (fun q1 => ?_)⟩
      · refine ⟨_, rfl, _, _, rfl, rfl, ?_⟩
        rw [show decide (lo ≤ i) = true from q1, Bool.true_and] at e
        exact e
      · rw [show decide (lo ≤ i) = false from Bool.eq_false_iff.mpr q1, Bool.false_and] at e
        exact e
    · have e := k H1 s1
      unfold within at e
      rw [Bool.eq_false_iff.mpr q, Bool.false_and] at e
      exact e
def pairWithin (d : PyData) (lo hi : Int) : Bool := pairB d && match d with
  | .tuple [.int a, .int b] => decide (lo ≤ min a b) && decide (max a b ≤ hi)
  | _ => false
def spPairWithin : Sp := fun vs H Q _ => ∃ (x : V) (d : PyData) (lo hi : Int), vs = [x, .int lo, .int hi] ∧ Dx H x d ∧ ∀ H', Same H H' → Q (.bl (pairWithin d lo hi)) H'
theorem c_is_pair_within (T : Txt K mg) (C_is_pair : CalG P w K mg base 2 "is_pair" ["value"] (spJ pairB)) (D : DefAt K mg "is_pair_within" s_is_pair_within ["value", "least", "greatest"]) : CalG P w K mg base 3 "is_pair_within" ["value", "least", "greatest"] spPairWithin := by
  refine calOk D sc_is_pair_within (fun xs H Q E h => ?_) (fun f cdv A out s H xs Q E hgd hr h => ?_)
  · obtain ⟨x, d, lo, hi, rfl, _⟩ := h
    rfl
  · obtain ⟨x, d, lo, hi, rfl, hx, k⟩ := h
    have nd := sc_is_pair_within.nd
    refine ⟨_, (pss_one (ps_ret (pe_and (pe_k C_is_pair hgd hr (by decide) rfl (pa_cons (pv 0) pa_nil)) (pe_and (pe_cmpR op_le (pv 1) (pe_callB (cr_min2T rfl hr.units) (by rfl) T.min (by decide +kernel) (pa_cons (pv 0) pa_nil)) (nomark _)) (pe_one (pe_cmpR op_le (pe_callB (cr_max2T rfl hr.units) (by rfl) T.max (by decide +kernel) (pa_cons (pv 0) pa_nil)) (pv 2) (nomark _))))))), ?_⟩
    refine ⟨_, rfl, _, _, rfl, hx, fun H1 s1 => ⟨_, rfl, ite2 (fun q => ?_) (fun q => ?_)⟩⟩
    · obtain ⟨a, b, rfl⟩ := pair_ints q
      have hx1 := hx.grow s1
      have e := k H1 s1
      unfold pairWithin at e
      rw [q, Bool.true_and] at e
      replace e : Q (.bl (decide (lo ≤ min a b) && decide (max a b ≤ hi))) H1 := e
      cases hx1 with
      | tup h1 h2 =>
        cases h2 with
        | cons y1 r1 =>
          cases r1 with
          | cons y2 r2 =>
            cases r2
            cases y1
            cases y2
            refine ⟨_, rfl, _, rfl, _, _, _, rfl, h1, _, _, rfl, rfl, _, rfl, ite2 (fun q1 => ?_) (fun q1 => ?_)⟩
            · refine ⟨_, rfl, _, _, _, rfl, h1, _, rfl, _, _, rfl, rfl, ?_⟩
              rw [show decide (lo ≤ min a b) = true from q1, Bool.true_and] at e
              exact e
            · rw [show decide (lo ≤ min a b) = false from Bool.eq_false_iff.mpr q1, Bool.false_and] at e
              exact e
    · have e := k H1 s1
      unfold pairWithin at e
      rw [Bool.eq_false_iff.mpr q, Bool.false_and] at e
      exact e
theorem within_form (d : PyData) : pairWithin d 0 7 = formB d := by
  unfold pairWithin
  cases h : formB d with
  | true =>
    obtain ⟨a, b, rfl⟩ := pair_ints (form_pair h)
    rw [form_pair h, Bool.true_and]
    simp only [formB, sideB, Bool.and_eq_true, decide_eq_true_eq] at h
    rw [Bool.and_eq_true, decide_eq_true_eq, decide_eq_true_eq]
    omega
  | false =>
    cases hp : pairB d with
    | false => rfl
    | true =>
      obtain ⟨a, b, rfl⟩ := pair_ints hp
      rw [Bool.true_and]
      simp only [formB, sideB] at h
      rw [Bool.eq_false_iff] at h ⊢
      intro z
      refine h ?_
      rw [Bool.and_eq_true, decide_eq_true_eq, decide_eq_true_eq] at z
      simp only [Bool.and_eq_true, decide_eq_true_eq]
      omega
theorem c_is_form (T : Txt K mg) (C_is_pair_within : CalG P w K mg base 3 "is_pair_within" ["value", "least", "greatest"] spPairWithin) (D : DefAt K mg "is_form" s_is_form ["value"]) : CalG P w K mg base 4 "is_form" ["value"] (spJ formB) := by
  refine calOk D sc_is_form (fun xs H Q E h => ?_) (fun f cdv A out s H xs Q E hgd hr h => ?_)
  · obtain ⟨x, d, rfl, _⟩ := h
    rfl
  · obtain ⟨x, d, rfl, hx, k⟩ := h
    have nd := sc_is_form.nd
    refine ⟨_, (pss_one (ps_ret (pe_k C_is_pair_within hgd hr (by decide) rfl (pa_cons (pv 0) (pa_cons pe_int (pa_cons (pe_gv rfl T.gMAX_SIDE) pa_nil)))))), ?_⟩
    refine ⟨_, rfl, x, d, 0, 7, rfl, hx, fun H1 s1 => ?_⟩
    rw [within_form]
    exact k H1 s1
theorem c_are_forms (T : Txt K mg) (C_is_form : CalG P w K mg base 4 "is_form" ["value"] (spJ formB)) (D : DefAt K mg "are_forms" s_are_forms ["value"]) : CalG P w K mg base 5 "are_forms" ["value"] (spJ formsB) := by
  refine calOk D sc_are_forms (fun xs H Q E h => ?_) (fun f cdv A out s H xs Q E hgd hr h => ?_)
  · obtain ⟨x, d, rfl, _⟩ := h
    rfl
  · obtain ⟨x, d, rfl, hx, k⟩ := h
    have nd := sc_are_forms.nd
    refine ⟨_, (pss_one (ps_ret (pe_and (pe_callB call_isi (by rfl) T.isinstance (by decide +kernel) (pa_cons (pv 0) (pa_cons (pe_ty "tuple" rfl T.tuple (by decide +kernel)) pa_nil))) (pe_and (pe_cmpR op_le (pe_callB call_len_seq (by rfl) T.len (by decide +kernel) (pa_cons (pv 0) pa_nil)) (pe_gv rfl T.gMAX_LEVELS) (nomark _)) (pe_one (pe_callB (cr_all rfl) (by rfl) T.all (by decide +kernel) (pa_cons (pe_lc (own := [("form", 1)]) (g := gName 1) (by rfl) nd (pi_tup (pv 0)) (blkOk_by (own := [("form", 1)]) (N := N_are_forms) (sc := defScope s_are_forms) (by decide +kernel)) (fun _ _ _ _ _ => pg_name (i := 1) nd rfl (.inl rfl)) (fun _ _ _ _ _ => pts_nil) (fun _ _ _ _ _ => pe_k C_is_form hgd hr (by decide) rfl (pa_cons (pv 1) pa_nil))) pa_nil))))))), ?_⟩
    cases hx with
    | tup h1 h2 =>
      rename_i a xs ds
      have hl := h2.len
      refine ⟨_, rfl, _, _, _, _, true, rfl, .ty _, Dx.ty (.tup h1 h2), kit_ty (by show kitB "tuple" _ = _; decide +kernel), true, rfl, iteT ?_⟩
      refine ⟨_, rfl, _, _, rfl, .inr (SqT.of h1), _, _, rfl, rfl, _, rfl, ite2 (fun q => ?_) (fun q => ?_)⟩
      · have few : xs.length ≤ 200 := by
          have := of_decide_eq_true q
          omega
        refine ⟨_, rfl, a, rfl, ⟨_, SqT.of h1⟩, fun Dl nD => ?_⟩
        refine lc_tup (K := K) (a := a) (xs := xs) (fun i H' => Same H H' ∧ H' Dl = some (.lst (((ds.take i).map formB).map V.bl))) ?_ ?_ ?_ ?_
        · exact ⟨same_new nD, upd_same⟩
        · rintro i H' _ ⟨s1, _⟩
          exact SqT.of (s1 _ _ h1)
        · rintro i x H' hi ⟨s1, hD⟩
          obtain ⟨d, hd, hx⟩ := h2.get i x hi
          refine ⟨rfl, ?_⟩
          refine ⟨_, rfl, _, d, rfl, hx.grow s1, fun H2 s2 => ?_⟩
          refine ⟨_, s2 _ _ hD, ?_, Same.put (s1.trans s2) nD, ?_⟩
          · rw [List.length_map, List.length_map, List.length_take]
            exact small1000 (by omega)
          · rw [upd_same, List.take_add_one, hd, List.map_append, List.map_append]
            rfl
        · rintro H' ⟨s1, hD⟩
          refine ⟨Dl, _, rfl, SqL.of hD, ?_⟩
          have e := k H' s1
          have ef : formsB (.tuple ds) = ((ds.take xs.length).map formB).all id := by
            rw [hl, List.take_length]
            simp only [formsB]
            rw [decide_eq_true (by omega), Bool.true_and, List.all_map]
            rfl
          rw [ef] at e
          exact e
      · have e := k H (Same.refl _)
        have nf : formsB (.tuple ds) = false := by
          simp only [formsB]
          rw [decide_eq_false (fun z => q (decide_eq_true (by omega))), Bool.false_and]
        rw [nf] at e
        exact e
    | int i => exact ⟨_, rfl, _, _, _, _, false, rfl, .ty _, Dx.ty (.int i), kit_ty (by show kitB "int" _ = _; decide +kernel), false, rfl, iteF (k H (Same.refl _))⟩
    | bl b => exact ⟨_, rfl, _, _, _, _, false, rfl, .ty _, Dx.ty (.bl b), kit_ty (by show kitB "bool" _ = _; decide +kernel), false, rfl, iteF (k H (Same.refl _))⟩
    | non => exact ⟨_, rfl, _, _, _, _, false, rfl, .ty _, Dx.ty .non, kit_ty (by decide +kernel), false, rfl, iteF (k H (Same.refl _))⟩
    | str x => exact ⟨_, rfl, _, _, _, _, false, rfl, .ty _, Dx.ty (.str x), kit_ty (by show kitB "str" _ = _; decide +kernel), false, rfl, iteF (k H (Same.refl _))⟩
    | lst h1 h2 => exact ⟨_, rfl, _, _, _, _, false, rfl, .ty _, Dx.ty (.lst h1 h2), kit_ty (by show kitB "list" _ = _; decide +kernel), false, rfl, iteF (k H (Same.refl _))⟩
    | dct h1 h2 => exact ⟨_, rfl, _, _, _, _, false, rfl, .ty _, Dx.ty (.dct h1 h2), kit_ty (by show kitB "dict" _ = _; decide +kernel), false, rfl, iteF (k H (Same.refl _))⟩
theorem forms_all {ds : List PyData} (h : formsB (.tuple ds) = true) : ds.length ≤ 200 ∧ ∀ d ∈ ds, formB d = true := by
  have h' : ds.length ≤ 200 ∧ ds.all formB = true := by
    simp only [formsB, Bool.and_eq_true, decide_eq_true_eq] at h
    exact h
  exact ⟨h'.1, fun d hd => List.all_eq_true.mp h'.2 d hd⟩
theorem form_ints {d : PyData} (h : formB d = true) : ∃ a b, d = .tuple [.int a, .int b] := pair_ints (form_pair h)
theorem form_plain {d : PyData} (h : formB d = true) : d.canLay0 = true ∧ d.depth ≤ 1 ∧ d.hasDict = false := by
  obtain ⟨a, b, rfl⟩ := form_ints h
  exact ⟨by simp [PyData.canLay0, PyData.canLayAll0], by simp [PyData.depth, PyData.depthAll], by simp [PyData.hasDict, PyData.hasDictAll]⟩
theorem dictAll0 : ∀ (xs : List PyData), (∀ x ∈ xs, x.hasDict = false) → PyData.hasDictAll xs = false
  | [], _ => by simp [PyData.hasDictAll]
  | x :: r, h => by
    rw [PyData.hasDictAll, h x List.mem_cons_self, dictAll0 r fun y hy => h y (List.mem_cons_of_mem _ hy)]
    rfl
theorem forms_plain {ds : List PyData} (h : ∀ d ∈ ds, formB d = true) : SeqAt.shaped (.tuple ds) = true ∧ (PyData.tuple ds).hasDict = false := by
  have q1 : PyData.canLayAll0 ds = true := by
    have := canAll id ds fun d hd => (form_plain (h d hd)).1
    rwa [List.map_id] at this
  have q2 : PyData.depthAll ds ≤ 1 := by
    have := depthAll0 1 id ds fun d hd => (form_plain (h d hd)).2.1
    rwa [List.map_id] at this
  refine ⟨?_, ?_⟩
  · show (PyData.canLay0 (.tuple ds) && decide (PyData.depth (.tuple ds) ≤ 64)) = true
    rw [Bool.and_eq_true_iff]
    exact ⟨by simp only [PyData.canLay0]; exact q1, decide_eq_true (by simp only [PyData.depth]; omega)⟩
  · simp only [PyData.hasDict]
    exact dictAll0 ds fun d hd => (form_plain (h d hd)).2.2
theorem c_is_row (T : Txt K mg) (C_are_forms : CalG P w K mg base 5 "are_forms" ["value"] (spJ formsB)) (D : DefAt K mg "is_row" s_is_row ["value"]) : CalG P w K mg base 6 "is_row" ["value"] (spJ rowB) := by
  refine calOk D sc_is_row (fun xs H Q E h => ?_) (fun f cdv A out s H xs Q E hgd hr h => ?_)
  · obtain ⟨x, d, rfl, _⟩ := h
    rfl
  · obtain ⟨x, d, rfl, hx, k⟩ := h
    have nd := sc_is_row.nd
    refine ⟨_, (pss_one (ps_ret (pe_and (pe_k C_are_forms hgd hr (by decide) rfl (pa_cons (pv 0) pa_nil)) (pe_one (pe_or (pe_cmpR (op_eqD hr.units) (pv 0) (pe_tup pa_nil) (nomark _)) (pe_one (pe_cmpR (op_neD hr.units) (pe_ix ix_tup (pv 0) (pe_un un_neg pe_int) (fun _ _ => rfl)) (pe_tup (pa_cons pe_int (pa_cons pe_int pa_nil))) (nomark _)))))))), ?_⟩
    refine ⟨_, rfl, _, d, rfl, hx, fun H1 s1 => ⟨_, rfl, ite2 (fun q => ?_) (fun q => ?_)⟩⟩
    · obtain ⟨ds, rfl⟩ : ∃ ds, d = .tuple ds := by
        match d, q with
        | .tuple ds, _ => exact ⟨ds, rfl⟩
        | .none, q => simp [formsB] at q
        | .bool _, q => simp [formsB] at q
        | .int _, q => simp [formsB] at q
        | .str _, q => simp [formsB] at q
        | .list _, q => simp [formsB] at q
        | .dict _, q => simp [formsB] at q
      obtain ⟨few, allf⟩ := forms_all q
      obtain ⟨sh, nodict⟩ := forms_plain allf
      have e0 : rowB (.tuple ds) = (ds.isEmpty || !PyData.eqv (ds.getLastD .none) zeroD) := by
        simp only [rowB]
        rw [q, Bool.true_and]
      have hx1 := hx.grow s1
      refine ⟨_, rfl, (by show 0 ≤ sizeLine; decide), fun p np => ?_⟩
      refine ⟨.tuple ds, .tuple [], (hx1.grow (same_new np)).dp nodict, .tup (SqT.of upd_same) .nil, sh, (by decide +kernel), _, rfl, ite2 (fun q1 => ?_) (fun q1 => ?_)⟩
      · have e := k _ (s1.trans (same_new (o := .tup []) np))
        have em : ds = [] := by
          match ds, q1 with
          | [], _ => rfl
          | _ :: _, q1 => simp [PyData.eqv, PyData.eqvAll] at q1
        rw [e0, em] at e
        exact e
      · have ne : ds ≠ [] := fun z => by
          rw [z] at q1
          exact q1 (by decide +kernel)
        cases hx1 with
        | tup h1 h2 =>
          rename_i a ys
          have hl := h2.len
          obtain ⟨ys0, y, rfl⟩ : ∃ ys0 y, ys = ys0 ++ [y] := by
            rcases List.eq_nil_or_concat ys with z | ⟨i, y, z⟩
            · rw [z] at hl
              exact absurd (List.eq_nil_of_length_eq_zero hl.symm) ne
            · exact ⟨i, y, by rw [z, List.concat_eq_append]⟩
          obtain ⟨dy, hdy, hy⟩ := h2.get ys0.length y (by simp)
          have last : ds.getLastD .none = dy := by
            rw [List.getLastD_eq_getLast?, List.getLast?_eq_getElem?]
            have : ds.length - 1 = ys0.length := by
              rw [← hl, List.length_append]
              simp
            rw [this, hdy]
            rfl
          have fy : formB dy = true := allf dy (List.mem_of_getElem? hdy)
          obtain ⟨c1, c2, c3⟩ := form_plain fy
          refine ⟨_, rfl, _, rfl, _, _, _, _, rfl, rfl, SqT.of (same_new np _ _ h1), atI_last ys0 y, ?_⟩
          refine ⟨(by show 2 ≤ sizeLine; decide), fun p2 np2 => ?_⟩
          refine ⟨dy, zeroD, ((hy.grow (same_new np)).grow (same_new np2)).dp c3, .tup (SqT.of upd_same) (.cons (.int 0) (.cons (.int 0) .nil)), ?_, (by decide +kernel), ?_⟩
          · show (PyData.canLay0 dy && decide (PyData.depth dy ≤ 64)) = true
            rw [c1, decide_eq_true (by omega)]
            rfl
          · have e := k _ ((s1.trans (same_new (o := .tup []) np)).trans (same_new (o := .tup [.int 0, .int 0]) np2))
            have em : ds.isEmpty = false := by
              cases ds with
              | nil => exact absurd rfl ne
              | cons _ _ => rfl
            rw [e0, last, em, Bool.false_or] at e
            exact e
    · have e := k H1 s1
      have nf : rowB d = false := by
        match d, q with
        | .tuple ds, q =>
          simp only [rowB]
          rw [Bool.eq_false_iff.mpr q, Bool.false_and]
        | .none, _ => rfl
        | .bool _, _ => rfl
        | .int _, _ => rfl
        | .str _, _ => rfl
        | .list _, _ => rfl
        | .dict _, _ => rfl
      rw [nf] at e
      exact e
end
/-! ## the law's rows: lists of pairs of numbers -/
def formD (f : Int × Int) : PyData := .tuple [.int f.1, .int f.2]
def rowD (fs : List (Int × Int)) : PyData := .tuple (fs.map formD)
def cutF (fs : List (Int × Int)) : List (Int × Int) := (fs.reverse.dropWhile fun f => decide (f = (0, 0))).reverse
theorem cutF_nil : cutF [] = [] := rfl
theorem cutF_zero (fs : List (Int × Int)) : cutF (fs ++ [(0, 0)]) = cutF fs := by
  unfold cutF
  rw [List.reverse_append]
  simp
theorem cutF_last (fs : List (Int × Int)) {f : Int × Int} (h : f ≠ (0, 0)) : cutF (fs ++ [f]) = fs ++ [f] := by
  unfold cutF
  rw [List.reverse_append]
  simp [h]
theorem cutF_cut (fs : List (Int × Int)) : cutF (cutF fs) = cutF fs := by
  unfold cutF
  rw [List.reverse_reverse]
  congr 1
  generalize fs.reverse = l
  induction l with
  | nil => rfl
  | cons x r ih =>
    by_cases h : x = (0, 0)
    · simp [h, ih]
    · simp [h]
theorem cutF_sub (fs : List (Int × Int)) : (cutF fs).length ≤ fs.length ∧ ∀ f ∈ cutF fs, f ∈ fs := by
  unfold cutF
  have h1 := (List.dropWhile_suffix (l := fs.reverse) fun f => decide (f = (0, 0)))
  refine ⟨?_, fun f hf => ?_⟩
  · have := h1.length_le
    simpa using this
  · have := h1.subset (List.mem_reverse.mp hf)
    exact List.mem_reverse.mp this
theorem formD_eqv (f : Int × Int) : PyData.eqv (formD f) zeroD = decide (f = (0, 0)) := by
  obtain ⟨a, b⟩ := f
  simp only [formD, zeroD, PyData.eqv, PyData.eqvAll, Bool.and_true]
  rw [Bool.eq_iff_iff]
  simp
theorem forms_flat (fs : List (Int × Int)) : PyData.canLayAll0 (fs.map formD) = true ∧ PyData.depthAll (fs.map formD) ≤ 1 ∧ PyData.hasDictAll (fs.map formD) = false := by
  refine ⟨canAll _ _ fun f _ => by simp [formD, PyData.canLay0, PyData.canLayAll0], depthAll0 1 _ _ fun f _ => by simp [formD, PyData.depth, PyData.depthAll], ?_⟩
  refine dictAll0 _ fun d hd => ?_
  obtain ⟨f, _, rfl⟩ := List.mem_map.mp hd
  simp [formD, PyData.hasDict, PyData.hasDictAll]
theorem eqv_nil (ds : List PyData) : PyData.eqv (.list ds) (.list []) = ds.isEmpty := by
  cases ds with
  | nil => simp [PyData.eqv, PyData.eqvAll]
  | cons x r => simp [PyData.eqv, PyData.eqvAll]
theorem shapedL (fs : List (Int × Int)) : SeqAt.shaped (.list (fs.map formD)) = true := by
  obtain ⟨q1, q2, _⟩ := forms_flat fs
  show (PyData.canLay0 (.list _) && decide (PyData.depth (.list _) ≤ 64)) = true
  rw [Bool.and_eq_true_iff]
  exact ⟨by simp only [PyData.canLay0]; exact q1, decide_eq_true (by simp only [PyData.depth]; omega)⟩
theorem shapedT (fs : List (Int × Int)) : SeqAt.shaped (rowD fs) = true := by
  obtain ⟨q1, q2, _⟩ := forms_flat fs
  show (PyData.canLay0 (.tuple _) && decide (PyData.depth (.tuple _) ≤ 64)) = true
  rw [Bool.and_eq_true_iff]
  exact ⟨by simp only [PyData.canLay0]; exact q1, decide_eq_true (by simp only [PyData.depth]; omega)⟩
theorem shapedF (f : Int × Int) : SeqAt.shaped (formD f) = true := by
  show (PyData.canLay0 (.tuple _) && decide (PyData.depth (.tuple _) ≤ 64)) = true
  rw [Bool.and_eq_true_iff]
  exact ⟨by simp [PyData.canLay0, PyData.canLayAll0], decide_eq_true (by simp [PyData.depth, PyData.depthAll])⟩
theorem noDictF (f : Int × Int) : (formD f).hasDict = false := by simp [formD, PyData.hasDict, PyData.hasDictAll]
theorem noDictT (fs : List (Int × Int)) : (rowD fs).hasDict = false := by
  simp only [rowD, PyData.hasDict]
  exact (forms_flat fs).2.2
def Side (n : Int) (f : Int × Int) : Prop := 0 ≤ f.1 ∧ f.1 ≤ n ∧ 0 ≤ f.2 ∧ f.2 ≤ n
theorem formB_D {f : Int × Int} (h : Side 7 f) : formB (formD f) = true := by
  obtain ⟨h1, h2, h3, h4⟩ := h
  simp [formB, formD, sideB, h1, h2, h3, h4]
theorem rowB_D {fs : List (Int × Int)} (h : ∀ f ∈ fs, Side 7 f) (hl : fs.length ≤ 200) (hc : cutF fs = fs) : rowB (rowD fs) = true := by
  have q1 : formsB (rowD fs) = true := by
    simp only [rowD, formsB]
    rw [List.length_map, decide_eq_true hl, Bool.true_and, List.all_eq_true]
    intro d hd
    obtain ⟨f, hf, rfl⟩ := List.mem_map.mp hd
    exact formB_D (h f hf)
  simp only [rowD, rowB] at q1 ⊢
  rw [q1, Bool.true_and]
  rcases List.eq_nil_or_concat fs with z | ⟨gs, g, z⟩
  · rw [z]
    rfl
  · rw [List.concat_eq_append] at z
    subst z
    have ng : g ≠ (0, 0) := fun e => by
      rw [e, cutF_zero] at hc
      have := (cutF_sub gs).1
      rw [hc, List.length_append, List.length_singleton] at this
      omega
    have el : ((gs ++ [g]).map formD).getLastD .none = formD g := by simp
    rw [el, formD_eqv, decide_eq_false ng]
    simp
def spCut : Sp := fun vs H Q _ => ∃ (d a : Addr) (fs : List (Int × Int)) (xs : List V), vs = [.ref a] ∧ DiceAt H d ∧ a ≠ d ∧ H a = some (.lst xs) ∧ DxAll (hide d H) xs (fs.map formD) ∧ fs.length ≤ 1000 ∧
  ∀ (p : Addr) (H' : Hp), Mv d H H' → Dx (hide d H') (.ref p) (rowD (cutF fs)) → Q (.ref p) H'
def spSomeForm : Sp := fun vs H Q _ => ∃ (d : Addr) (h : Int), vs = [.ref d, .int h] ∧ DiceAt H d ∧ 0 ≤ h ∧ h ≤ 100 ∧
  ∀ (p : Addr) (f : Int × Int) (H' : Hp), Side h f → Mv d H H' → Dx (hide d H') (.ref p) (formD f) → Q (.ref p) H'
def spSomeRow : Sp := fun vs H Q _ => ∃ (d : Addr) (n h : Int), vs = [.ref d, .int n, .int h] ∧ DiceAt H d ∧ 0 ≤ n ∧ n ≤ 300 ∧ 0 ≤ h ∧ h ≤ 100 ∧
  ∀ (p : Addr) (fs : List (Int × Int)) (H' : Hp), (∀ f ∈ fs, Side h f) → (fs.length : Int) ≤ n → cutF fs = fs → Mv d H H' → Dx (hide d H') (.ref p) (rowD fs) → Q (.ref p) H'
theorem log_small {t : Int} (h0 : 0 < t) (h : t ≤ 4000) : t.natAbs.log2 < 9000 := Nat.lt_of_le_of_lt (Nat.log2_le_self _) (by omega)
theorem hide_up {d p : Addr} {H : Hp} {o : HO} (n : p ≠ d) (h : H p = some o) : hide d H p = some o := by rw [hide_ne n]; exact h
section
variable {P : Program} {w : World} {K : PySem.W.Frag} {mg : Str → Option Value} {base : Heap}
theorem c_cut (T : Txt K mg) (D : DefAt K mg "_law_cut" s__law_cut ["_law_forms"]) : CalG P w K mg base 1 "_law_cut" ["_law_forms"] spCut := by
  refine calOk D sc__law_cut (fun xs H Q E h => ?_) (fun f cdv A out s H xs Q E hgd hr h => ?_)
  · obtain ⟨d, a, fs, xs, rfl, _⟩ := h
    rfl
  · obtain ⟨d, a, fs, xs, rfl, hd, na, ha, hx, hl, k⟩ := h
    have nd := sc__law_cut.nd
    refine ⟨_, (pss_cons (ps_set (i := 1) nd rfl (.inl rfl) (pe_callTy call_list_of (by rfl) T.list (by decide +kernel) (pa_cons (pv 0) pa_nil)))
      (pss_cons (ps_while PassesOwn.never (PW.pt (pw_and (pt_cmpR (op_neD hr.units) (pv 1) (pe_lst pa_nil) (nomark _)) (pw_and1 (pt_cmpR (op_eqD hr.units) (pe_ix ix_list (pv 1) (pe_un un_neg pe_int) (fun _ _ => rfl)) (pe_tup (pa_cons pe_int (pa_cons pe_int pa_nil))) (nomark _))))) (pss_one (ps_expr (pe_bm0 PySem.F.plainAttrs_list PySem.F.slot_list_pop PySem.F.type_list_pop mt_pop (pv 1)))))
      (pss_one (ps_ret (pe_callTy call_tuple_of (by rfl) T.tuple (by decide +kernel) (pa_cons (pv 1) pa_nil)))))), ?_⟩
    refine ⟨_, rfl, _, _, rfl, .inl (SqL.of ha), fun l nl => ?_⟩
    have nel := hd.ne nl
    refine ⟨fun m σ H' => ∃ gs zs, m = gs.length ∧ gs.length ≤ 1000 ∧ σ = [some (.ref a), some (.ref l)] ∧ H' l = some (.lst zs) ∧ Mv d H H' ∧ DxAll (hide d H) zs (gs.map formD) ∧ cutF gs = cutF fs, ?_, ?_⟩
    · have m1 : Mv d H (upd H l (.lst xs)) := (Mv.refl hd).new nl
      exact ⟨_, fs, xs, rfl, hl, rfl, upd_same, m1, hx, rfl⟩
    · rintro m σ H1 ⟨gs, zs, rfl, gl, rfl, hL, m1, hz, hc⟩
      refine ⟨_, rfl, (by show 0 ≤ sizeLine; decide), fun p np => ?_⟩
      have s1 : Same H1 (upd H1 p (.lst [])) := same_new np
      have m2 := m1.new (o := .lst []) np
      have hz2 := DxAll.grow m2.same hz
      refine ⟨.list (gs.map formD), .list [], .lst (SqL.of (s1 _ _ hL)) (DxAll.dp (DxAll.grow hide_le hz2) (forms_flat gs).2.2), .lst (SqL.of upd_same) .nil, shapedL gs, (by decide +kernel), ?_⟩
      rcases List.eq_nil_or_concat gs with z | ⟨gs0, g, z⟩
      · subst z
        refine ⟨false, rfl, ?_⟩
        -- return tuple(found)
        cases hz2
        refine ⟨_, rfl, l, _, rfl, .inl ⟨SqL.of (s1 _ _ hL), fun q nq => ?_⟩⟩
        refine k q _ (m2.new nq) ?_
        rw [← hc, cutF_nil]
        exact .tup (hide_up (m2.dice.ne nq) upd_same) .nil
      · rw [List.concat_eq_append] at z
        subst z
        refine ⟨true, congrArg V.bl (by rw [eqv_nil]; simp), ?_⟩
        obtain ⟨zs0, y, rfl⟩ : ∃ zs0 y, zs = zs0 ++ [y] := by
          rcases List.eq_nil_or_concat zs with z | ⟨i, y, z⟩
          · have := hz2.len
            rw [z] at this
            simp at this
          · exact ⟨i, y, by rw [z, List.concat_eq_append]⟩
        have hlen : zs0.length = gs0.length := by
          have := hz2.len
          simpa using this
        have hz0 : DxAll (hide d H) zs0 (gs0.map formD) := by
          have := DxAll.take zs0.length hz
          rw [List.take_left, List.map_append, hlen, ← List.length_map (f := formD), List.take_left] at this
          exact this
        obtain ⟨dy, e1, hy⟩ := hz2.get zs0.length y (by simp)
        have edy : dy = formD g := by
          rw [List.map_append, hlen, ← List.length_map (f := formD)] at e1
          simp at e1
          exact e1.symm
        subst edy
        have hL1 := s1 _ _ hL
        refine ⟨_, rfl, _, rfl, _, _, _, _, rfl, rfl, SqL.of hL1, atI_last zs0 y, (by show 2 ≤ sizeLine; decide), fun p2 np2 => ?_⟩
        have s2 := same_new (o := .tup [.int 0, .int 0]) np2
        have m3 := m2.new (o := .tup [.int 0, .int 0]) np2
        have g3 : Same (hide d (upd H1 p (.lst []))) (hide d (upd (upd H1 p (.lst [])) p2 (.tup [.int 0, .int 0]))) := ((Mv.refl m2.dice).new np2).same
        refine ⟨formD g, zeroD, ((Dx.grow hide_le hy).grow s2).dp (noDictF g), .tup (SqT.of upd_same) (.cons (.int 0) (.cons (.int 0) .nil)), shapedF g, (by decide +kernel), ?_⟩
        by_cases eg : g = (0, 0)
        · refine ⟨true, congrArg V.bl (by rw [formD_eqv, decide_eq_true eg]), ?_⟩
          refine ⟨_, fun _ _ n => n, ?_⟩
          refine ⟨_, rfl, .inl ⟨rfl, _, SqL.of (s2 _ _ hL1)⟩, l, _, y, rfl, rfl, s2 _ _ hL1, (by simp), ?_⟩
          have m4 := m3.set (o := .lst (zs0 ++ [y]).dropLast) nl nel
          refine ⟨gs0.length, (by simp), gs0, zs0, rfl, (by simp at gl; omega), rfl, ?_, m4, hz0, ?_⟩
          · rw [upd_same, List.dropLast_concat]
          · rw [← hc, eg, cutF_zero]
        · refine ⟨false, congrArg V.bl (by rw [formD_eqv, decide_eq_false eg]), ?_⟩
          refine ⟨_, rfl, l, _, rfl, .inl ⟨SqL.of (s2 _ _ hL1), fun q nq => ?_⟩⟩
          refine k q _ (m3.new nq) ?_
          rw [← hc, cutF_last _ eg]
          have g5 : Same (hide d (upd (upd H1 p (.lst [])) p2 (.tup [.int 0, .int 0]))) (hide d (upd (upd (upd H1 p (.lst [])) p2 (.tup [.int 0, .int 0])) q (.tup (zs0 ++ [y])))) := ((Mv.refl m3.dice).new nq).same
          exact .tup (hide_up (m3.dice.ne nq) upd_same) (DxAll.grow g5 (DxAll.grow g3 hz2))
end
/-- at the values xs stand the pairs fs -/
inductive FormsAt (H : Hp) : List V → List (Int × Int) → Prop
  | nil : FormsAt H [] []
  | cons {p : Addr} {f : Int × Int} {xs : List V} {fs : List (Int × Int)} : H p = some (.tup [.int f.1, .int f.2]) → FormsAt H xs fs → FormsAt H (.ref p :: xs) (f :: fs)
theorem FormsAt.keep {H H' : Hp} (s : ∀ p xs, H p = some (.tup xs) → H' p = some (.tup xs)) : ∀ {xs : List V} {fs : List (Int × Int)}, FormsAt H xs fs → FormsAt H' xs fs
  | _, _, .nil => .nil
  | _, _, .cons h r => .cons (s _ _ h) (FormsAt.keep s r)
theorem FormsAt.append {H : Hp} : ∀ {xs ys : List V} {fs gs : List (Int × Int)}, FormsAt H xs fs → FormsAt H ys gs → FormsAt H (xs ++ ys) (fs ++ gs)
  | _, _, _, _, .nil, h => h
  | _, _, _, _, .cons a b, h => .cons a (FormsAt.append b h)
theorem FormsAt.len {H : Hp} : ∀ {xs : List V} {fs : List (Int × Int)}, FormsAt H xs fs → xs.length = fs.length
  | _, _, .nil => rfl
  | _, _, .cons _ b => by rw [List.length_cons, List.length_cons, FormsAt.len b]
theorem FormsAt.get {H : Hp} : ∀ {xs : List V} {fs : List (Int × Int)}, FormsAt H xs fs → ∀ (i : Nat) (x : V), xs[i]? = some x → ∃ p f, x = .ref p ∧ fs[i]? = some f ∧ H p = some (.tup [.int f.1, .int f.2])
  | _, _, .nil, _, _, e => by cases e
  | _, _, .cons a b, 0, x, e => by
    cases e
    exact ⟨_, _, rfl, rfl, a⟩
  | _, _, .cons a b, i + 1, x, e => FormsAt.get b i x e
theorem FormsAt.dx {H : Hp} {d : Addr} (hd : DiceAt H d) : ∀ {xs : List V} {fs : List (Int × Int)}, FormsAt H xs fs → DxAll (hide d H) xs (fs.map formD)
  | _, _, .nil => .nil
  | _, _, .cons a b => .cons (.tup (hide_up (fun e => by
      obtain ⟨l, s, c, q⟩ := hd
      rw [e, q] at a
      cases a) a) (.cons (.int _) (.cons (.int _) .nil))) (FormsAt.dx hd b)
theorem FormsAt.of {H : Hp} : ∀ {xs : List V} (fs : List (Int × Int)), DxAll H xs (fs.map formD) → FormsAt H xs fs
  | xs, [], h => by
    cases h
    exact .nil
  | xs, f :: fs, h => by
    cases h with
    | cons a b =>
      cases a with
      | tup h1 h2 =>
        cases h2 with
        | cons y1 r =>
          cases r with
          | cons y2 r =>
            cases r
            cases y1
            cases y2
            exact .cons h1 (FormsAt.of fs b)
theorem Dx.form {H : Hp} {p : Addr} {f : Int × Int} (h : Dx H (.ref p) (formD f)) : H p = some (.tup [.int f.1, .int f.2]) := by
  cases h with
  | tup h1 h2 =>
    cases h2 with
    | cons y1 r =>
      cases r with
      | cons y2 r =>
        cases r
        cases y1
        cases y2
        exact h1
theorem Mv.tups {d : Addr} {H H' : Hp} (hd : DiceAt H d) (m : Mv d H H') (p : Addr) (xs : List V) (h : H p = some (.tup xs)) : H' p = some (.tup xs) := by
  refine m.get (fun e => ?_) h
  obtain ⟨l, s, c, q⟩ := hd
  rw [e, q] at h
  cases h
theorem tups_put {H : Hp} {l : Addr} {zs : List V} {o : HO} (hl : H l = some (.lst zs)) (p : Addr) (xs : List V) (h : H p = some (.tup xs)) : upd H l o p = some (.tup xs) := by
  rw [upd_ne (fun e => by rw [e, hl] at h; cases h)]
  exact h
theorem hide_le' {d p : Addr} {H : Hp} {o : HO} (h : hide d H p = some o) : H p = some o := hide_le _ _ h
section
variable {P : Program} {w : World} {K : PySem.W.Frag} {mg : Str → Option Value} {base : Heap}
theorem c_some_form (T : Txt K mg) (C__law_roll : CalG P w K mg base 1 "_law_roll" ["_law_dice_here", "_law_total"] spRoll) (D : DefAt K mg "_law_some_form" s__law_some_form ["_law_dice_here", "_law_high"]) :
    CalG P w K mg base 2 "_law_some_form" ["_law_dice_here", "_law_high"] spSomeForm := by
  refine calOk D sc__law_some_form (fun xs H Q E h => ?_) (fun f cdv A out s H xs Q E hgd hr h => ?_)
  · obtain ⟨d, h, rfl, _⟩ := h
    rfl
  · obtain ⟨d, n, rfl, hd, h0, h1, k⟩ := h
    have nd := sc__law_some_form.nd
    refine ⟨_, (pss_one (ps_ret (pe_tup (pa_cons (pe_k C__law_roll hgd hr (by decide) rfl (pa_cons (pv 0) (pa_cons (pe_op op_add (pv 1) pe_int) pa_nil))) (pa_cons (pe_k C__law_roll hgd hr (by decide) rfl (pa_cons (pv 0) (pa_cons (pe_op op_add (pv 1) pe_int) pa_nil))) pa_nil))))), ?_⟩
    have l1 : (n + 1).natAbs.log2 < 9000 := log_small (by omega) (by omega)
    refine ⟨_, rfl, _, rfl, _, _, rfl, rfl, d, _, rfl, hd, (by omega), l1, fun r1 H1 a1 b1 m1 f1 => ?_⟩
    refine ⟨_, rfl, _, rfl, _, _, rfl, rfl, d, _, rfl, m1.dice, (by omega), l1, fun r2 H2 a2 b2 m2 f2 => ?_⟩
    refine ⟨(by show 2 ≤ sizeLine; decide), fun p np => ?_⟩
    exact k p (r1, r2) _ ⟨a1, by omega, a2, by omega⟩ ((m1.trans m2).new np) (.tup (hide_up (m2.dice.ne np) upd_same) (.cons (.int _) (.cons (.int _) .nil)))
theorem c_some_row (T : Txt K mg) (C__law_roll : CalG P w K mg base 1 "_law_roll" ["_law_dice_here", "_law_total"] spRoll) (C__law_some_form : CalG P w K mg base 2 "_law_some_form" ["_law_dice_here", "_law_high"] spSomeForm)
    (C__law_cut : CalG P w K mg base 1 "_law_cut" ["_law_forms"] spCut) (D : DefAt K mg "_law_some_row" s__law_some_row ["_law_dice_here", "_law_levels", "_law_high"]) :
    CalG P w K mg base 3 "_law_some_row" ["_law_dice_here", "_law_levels", "_law_high"] spSomeRow := by
  refine calOk D sc__law_some_row (fun xs H Q E h => ?_) (fun f cdv A out s H xs Q E hgd hr h => ?_)
  · obtain ⟨d, n, h, rfl, _⟩ := h
    rfl
  · obtain ⟨d, n, h, rfl, hd, n0, n1, h0, h1, k⟩ := h
    have nd := sc__law_some_row.nd
    refine ⟨_, (pss_cons (ps_setLc (i := 3) (own := [("_law_turn", 4)]) (g := gName 4) (by rfl) nd rfl rfl (sw_true rfl rfl rfl (by decide +kernel)) (pi_range1 rfl T.range (pa_cons (pe_k C__law_roll hgd hr (by decide) rfl (pa_cons (pv 0) (pa_cons (pe_op op_add (pv 1) pe_int) pa_nil))) pa_nil)) (blkOk_by (own := [("_law_turn", 4)]) (N := N__law_some_row) (sc := defScope s__law_some_row) (by decide +kernel)) (fun _ _ _ _ _ => pg_name (i := 4) nd rfl (.inl rfl)) (fun _ _ _ _ _ => pts_nil) (fun _ _ _ _ _ => pe_k C__law_some_form hgd hr (by decide) rfl (pa_cons (pv 0) (pa_cons (pv 2) pa_nil))))
      (pss_cons (ps_setLc (i := 3) (own := [("_law_form", 5)]) (g := gName 5) (by rfl) nd rfl rfl (sw_true rfl rfl rfl (by decide +kernel)) (pi_list (pv 3)) (blkOk_by (own := [("_law_form", 5)]) (N := N__law_some_row) (sc := defScope s__law_some_row) (by decide +kernel)) (fun _ _ _ _ _ => pg_name (i := 5) nd rfl (.inl rfl)) (fun _ _ _ _ _ => pts_nil) (fun _ _ _ _ _ => pe_ifExp (pt_cmpR op_gt (pe_k C__law_roll hgd hr (by decide) rfl (pa_cons (pv 0) (pa_cons pe_int pa_nil))) pe_int (nomark _)) (pv 5) (pe_tup (pa_cons pe_int (pa_cons pe_int pa_nil)))))
      (pss_one (ps_ret (pe_k C__law_cut hgd hr (by decide) rfl (pa_cons (pv 3) pa_nil)))))), ?_⟩
    have l1 : (n + 1).natAbs.log2 < 9000 := log_small (by omega) (by omega)
    refine a_set (fun v H' => ∃ l xs fs, v = .ref l ∧ l ≠ d ∧ Mv d H H' ∧ H' l = some (.lst xs) ∧ FormsAt H' xs fs ∧ (fs.length : Int) ≤ n ∧ ∀ f ∈ fs, Side h f) (fun Q' kQ => ?_) ?_
    · refine ⟨_, rfl, _, rfl, _, _, rfl, rfl, d, _, rfl, hd, (by omega), l1, fun r1 H1 a1 b1 m1 f1 => ?_⟩
      refine ⟨_, rfl, (by omega), (by omega), fun Dl nD => ?_⟩
      have neD := m1.dice.ne nD
      refine lc_range (fun i H' => ∃ xs fs, Mv d H H' ∧ H' Dl = some (.lst xs) ∧ FormsAt H' xs fs ∧ fs.length = i ∧ ∀ f ∈ fs, Side h f) ?_ ?_ ?_
      · exact ⟨[], [], m1.new nD, upd_same, .nil, rfl, fun _ z => nomatch z⟩
      · rintro i H2 hi ⟨xs, fs, m2, hD, hF, hl, hs⟩
        refine ⟨rfl, ?_⟩
        refine ⟨_, rfl, _, rfl, d, h, rfl, m2.dice, h0, h1, fun p f H3 sf m3 hp => ?_⟩
        have hD3 := m3.get neD hD
        have hF3 := hF.keep (m3.tups m2.dice)
        refine ⟨xs, hD3, ?_, xs ++ [.ref p], fs ++ [f], (m2.trans m3).set (m1.free nD) neD, upd_same, ?_, ?_, ?_⟩
        · rw [hF3.len]
          exact small1000 (by omega)
        · exact (hF3.append (.cons (hide_le' hp.form) .nil)).keep (tups_put hD3)
        · rw [List.length_append, hl]
          rfl
        · intro g hg
          rcases List.mem_append.mp hg with q | q
          · exact hs g q
          · rw [List.mem_singleton.mp q]
            exact sf
      · rintro H2 ⟨xs, fs, m2, hD, hF, hl, hs⟩
        exact kQ _ _ ⟨Dl, xs, fs, rfl, neD, m2, hD, hF, by omega, hs⟩
    rintro _ H1 ⟨l, xs, fs, rfl, nel, m1, hL, hF, hn, hs⟩
    refine a_set (fun v H' => ∃ l xs fs, v = .ref l ∧ l ≠ d ∧ Mv d H H' ∧ H' l = some (.lst xs) ∧ FormsAt H' xs fs ∧ (fs.length : Int) ≤ n ∧ ∀ f ∈ fs, Side h f) (fun Q' kQ => ?_) ?_
    · refine ⟨_, rfl, l, rfl, ⟨_, SqL.of hL⟩, fun Dl nD => ?_⟩
      have neD := m1.dice.ne nD
      have neL : l ≠ Dl := ne_of_none hL nD
      have l5 : Nat.log2 5 < 9000 := by decide +kernel
      refine lc_list (K := K) (a := l) (xs := xs) (fun i H' => ∃ ys gs, Mv d H H' ∧ H' l = some (.lst xs) ∧ FormsAt H' xs fs ∧ H' Dl = some (.lst ys) ∧ FormsAt H' ys gs ∧ gs.length = i ∧ ∀ f ∈ gs, Side h f) ?_ ?_ ?_ ?_
      · refine ⟨[], [], m1.new nD, by rw [upd_ne neL]; exact hL, hF.keep fun p zs q => same_new nD _ _ q, upd_same, .nil, rfl, fun _ z => nomatch z⟩
      · rintro i H' _ ⟨ys, gs, _, hL', _⟩
        exact SqL.of hL'
      · rintro i x H2 hi ⟨ys, gs, m2, hL2, hF2, hD, hG, hl, hs2⟩
        obtain ⟨p, g, rfl, hg, hp⟩ := hF2.get i x hi
        have sg : Side h g := hs g (List.mem_of_getElem? hg)
        have lys : ys.length < sizeLine := by
          rw [hG.len, hl]
          have : i < xs.length := (List.getElem?_eq_some_iff.mp hi).1
          rw [hF.len] at this
          exact small1000 (by omega)
        refine ⟨rfl, ?_⟩
        refine ⟨_, rfl, d, 5, rfl, m2.dice, (by decide), l5, fun r3 H3 a3 b3 m3 f3 => ?_⟩
        have hD3 := m3.get neD hD
        have hL3 := m3.get nel hL2
        have hF3 := hF2.keep (m3.tups m2.dice)
        have hG3 := hG.keep (m3.tups m2.dice)
        refine ⟨_, _, rfl, rfl, _, rfl, ite2 (fun q => ?_) (fun q => ?_)⟩
        · have hp3 := m3.tups m2.dice _ _ hp
          refine ⟨_, rfl, ys, hD3, lys, ys ++ [.ref p], gs ++ [g], (m2.trans m3).set (m1.free nD) neD, by rw [upd_ne neL]; exact hL3, hF3.keep (tups_put hD3), upd_same, ?_, ?_, ?_⟩
          · exact (hG3.append (.cons hp3 .nil)).keep (tups_put hD3)
          · rw [List.length_append, hl]
            rfl
          · intro g' hg'
            rcases List.mem_append.mp hg' with z | z
            · exact hs2 g' z
            · rw [List.mem_singleton.mp z]
              exact sg
        · refine ⟨(by show 2 ≤ sizeLine; decide), fun p2 np2 => ?_⟩
          have s4 := same_new (o := .tup [.int 0, .int 0]) np2
          have hD4 := s4 _ _ hD3
          refine ⟨ys, hD4, lys, ys ++ [.ref p2], gs ++ [(0, 0)], ((m2.trans m3).new np2).set (m1.free nD) neD, by rw [upd_ne neL]; exact s4 _ _ hL3, (hF3.keep fun p zs q => s4 _ _ q).keep (tups_put hD4), upd_same, ?_, ?_, ?_⟩
          · exact ((hG3.keep fun p zs q => s4 _ _ q).append (.cons (f := (0, 0)) upd_same .nil)).keep (tups_put hD4)
          · rw [List.length_append, hl]
            rfl
          · intro g' hg'
            rcases List.mem_append.mp hg' with z | z
            · exact hs2 g' z
            · rw [List.mem_singleton.mp z]
              exact ⟨Int.le_refl _, h0, Int.le_refl _, h0⟩
      · rintro H2 ⟨ys, gs, m2, hL2, hF2, hD, hG, hl, hs2⟩
        exact kQ _ _ ⟨Dl, ys, gs, rfl, neD, m2, hD, hG, by rw [hl, hF.len]; exact hn, hs2⟩
    rintro _ H2 ⟨l2, ys, gs, rfl, ne2, m2, hL2, hG, hn2, hs2⟩
    refine ⟨_, rfl, d, l2, gs, ys, rfl, m2.dice, ne2, hL2, hG.dx m2.dice, (by omega), fun p H3 m3 hp => ?_⟩
    have sub := cutF_sub gs
    exact k p (cutF gs) H3 (fun f hf => hs2 f (sub.2 f hf)) (by have := sub.1; omega) (cutF_cut gs) (m2.trans m3) hp
end

/-! ## check_arity, check_row, sides_of, length_of, with right arguments -/
def spCheckArity : Sp := fun vs H Q _ => ∃ k : Int, vs = [.int k] ∧ (k = 2 ∨ k = 3) ∧ ∀ H', Same H H' → Q .non H'
def spCheckRow : Sp := fun vs H Q _ => ∃ (x : V) (d : PyData), vs = [x] ∧ Dx H x d ∧ rowB d = true ∧ ∀ H', Same H H' → Q .non H'
def sideL (k : Int) (fs : List (Int × Int)) : Int := fs.foldr (fun f a => a * k + f.1) 0
def sideR (k : Int) (fs : List (Int × Int)) : Int := fs.foldr (fun f a => a * k + f.2) 0
def spSides : Sp := fun vs H Q _ => ∃ (k : Int) (x : V) (fs : List (Int × Int)), vs = [.int k, x] ∧ (k = 2 ∨ k = 3) ∧ Dx H x (rowD fs) ∧ rowB (rowD fs) = true ∧
  ∀ (p : Addr) (H' : Hp), H p = none → Same H H' → H' p = some (.tup [.int (sideL k fs), .int (sideR k fs)]) → Q (.ref p) H'
def spLength : Sp := fun vs H Q _ => ∃ (k : Int) (x : V) (fs : List (Int × Int)), vs = [.int k, x] ∧ (k = 2 ∨ k = 3) ∧ Dx H x (rowD fs) ∧ rowB (rowD fs) = true ∧
  ∀ H' : Hp, Same H H' → Q (.int (sideL k fs + sideR k fs)) H'
theorem FormsAt.reverse {H : Hp} : ∀ {xs : List V} {fs : List (Int × Int)}, FormsAt H xs fs → FormsAt H xs.reverse fs.reverse
  | _, _, .nil => .nil
  | _, _, .cons a b => by
    rw [List.reverse_cons, List.reverse_cons]
    exact (FormsAt.reverse b).append (.cons a .nil)
theorem Dx.rowOf {H : Hp} {x : V} {fs : List (Int × Int)} (h : Dx H x (rowD fs)) : ∃ a xs, x = .ref a ∧ H a = some (.tup xs) ∧ FormsAt H xs fs := by
  obtain ⟨a, xs, e, h1, h2⟩ := h.tupOf
  exact ⟨a, xs, e, h1, FormsAt.of fs h2⟩
section
variable {P : Program} {w : World} {K : PySem.W.Frag} {mg : Str → Option Value} {base : Heap}
theorem c_check_arity (T : Txt K mg) (C_is_within : CalG P w K mg base 2 "is_within" ["value", "least", "greatest"] spWithin) (D : DefAt K mg "check_arity" s_check_arity ["arity"]) : CalG P w K mg base 3 "check_arity" ["arity"] spCheckArity := by
  refine calOk D sc_check_arity (fun xs H Q E h => ?_) (fun f cdv A out s H xs Q E hgd hr h => ?_)
  · obtain ⟨k, rfl, _⟩ := h
    rfl
  · obtain ⟨n, rfl, hn, k⟩ := h
    have nd := sc_check_arity.nd
    refine ⟨_, (pss_one (ps_if (pt_not (pt_val (pe_k C_is_within hgd hr (by decide) rfl (pa_cons (pv 0) (pa_cons pe_int (pa_cons pe_int pa_nil)))))) (pss_one (ps_never)) pss_nil)), ?_⟩
    have sm : within (.int n) 2 3 = true := by
      show (smallB n && (decide (2 ≤ n) && decide (n ≤ 3))) = true
      unfold smallB BIG
      rw [decide_eq_true (by omega), decide_eq_true (by omega), decide_eq_true (by omega), decide_eq_true (by omega)]
      rfl
    refine a_if1 (fun b H' => b = false ∧ Same H H') (fun Q' kQ => ?_) (fun H' h => nomatch h.1) (fun H' h => k H' h.2)
    exact ⟨_, rfl, _, _, 2, 3, rfl, .int n, fun H1 s1 => ⟨true, congrArg V.bl sm, kQ _ _ ⟨rfl, s1⟩⟩⟩
theorem c_check_row (T : Txt K mg) (C_is_row : CalG P w K mg base 6 "is_row" ["value"] (spJ rowB)) (D : DefAt K mg "check_row" s_check_row ["row"]) : CalG P w K mg base 7 "check_row" ["row"] spCheckRow := by
  refine calOk D sc_check_row (fun xs H Q E h => ?_) (fun f cdv A out s H xs Q E hgd hr h => ?_)
  · obtain ⟨x, d, rfl, _⟩ := h
    rfl
  · obtain ⟨x, d, rfl, hx, hb, k⟩ := h
    have nd := sc_check_row.nd
    refine ⟨_, (pss_one (ps_if (pt_not (pt_val (pe_k C_is_row hgd hr (by decide) rfl (pa_cons (pv 0) pa_nil)))) (pss_one (ps_never)) pss_nil)), ?_⟩
    refine a_if1 (fun b H' => b = false ∧ Same H H') (fun Q' kQ => ?_) (fun H' h => nomatch h.1) (fun H' h => k H' h.2)
    exact ⟨_, rfl, _, _, rfl, hx, fun H1 s1 => ⟨true, congrArg V.bl hb, kQ _ _ ⟨rfl, s1⟩⟩⟩
def spSums : Sp := fun vs H Q _ => ∃ (k : Int) (x : V) (fs : List (Int × Int)), vs = [.int k, x] ∧ (k = 2 ∨ k = 3) ∧ Dx H x (rowD fs) ∧
  ∀ (p : Addr) (H' : Hp), H p = none → Same H H' → H' p = some (.tup [.int (sideL k fs), .int (sideR k fs)]) → Q (.ref p) H'
theorem c_sums (T : Txt K mg) (D : DefAt K mg "sums_of" s_sums_of ["arity", "row"]) : CalG P w K mg base 1 "sums_of" ["arity", "row"] spSums := by
  refine calOk D sc_sums_of (fun xs H Q E h => ?_) (fun f cdv A out s H xs Q E hgd hr h => ?_)
  · obtain ⟨n, x, fs, rfl, _⟩ := h
    rfl
  · obtain ⟨n, x, fs, rfl, hn, hx, k⟩ := h
    have nd := sc_sums_of.nd
    refine ⟨_, (pss_cons (ps_set (i := 2) nd rfl (.inl rfl) pe_int)
      (pss_cons (ps_set (i := 3) nd rfl (.inl rfl) pe_int)
      (pss_cons (ps_for PassesOwn.never rfl (pi_tup (pe_revT (pv 1))) (pg_tup (by rfl) (pgs_cons (pg_name (i := 4) nd rfl (.inl rfl)) (pgs_cons (pg_name (i := 5) nd rfl (.inl rfl)) pgs_nil))) (pss_cons (ps_set (i := 2) nd rfl (.inl rfl) (pe_op op_add (pe_op op_mul (pv 2) (pv 0)) (pv 4)))
        (pss_one (ps_set (i := 3) nd rfl (.inl rfl) (pe_op op_add (pe_op op_mul (pv 3) (pv 0)) (pv 5))))))
      (pss_one (ps_ret (pe_tup (pa_cons (pv 2) (pa_cons (pv 3) pa_nil)))))))), ?_⟩
    have s12 := Same.refl H
    obtain ⟨a, xs, rfl, ha, hF⟩ := (hx.grow s12).rowOf
    refine ⟨_, rfl, a, xs, rfl, SqT.of ha, fun q nq => ?_⟩
    have s3 := same_new (o := .tup xs.reverse) nq
    have hR := hF.reverse
    refine ⟨q, rfl, ⟨_, SqT.of upd_same⟩, ?_⟩
    refine for_tup (K := K) (a := q) (xs := xs.reverse) (fun i σ H' => ∃ v4 v5, σ = [some (.int n), some (.ref a), some (.int ((fs.reverse.take i).foldl (fun a f => a * n + f.1) 0)), some (.int ((fs.reverse.take i).foldl (fun a f => a * n + f.2) 0)), v4, v5] ∧
      Same H H' ∧ H' q = some (.tup xs.reverse) ∧ FormsAt H' xs.reverse fs.reverse) ?_ ?_ ?_ ?_
    · exact ⟨_, _, rfl, s12.trans s3, upd_same, hR.keep fun p zs z => s3 _ _ z⟩
    · rintro i σ H' _ ⟨_, _, _, _, hq, _⟩
      exact SqT.of hq
    · rintro i y σ H' hi ⟨v4, v5, rfl, s4, hq, hF4⟩
      obtain ⟨p, f, rfl, hf, hp⟩ := hF4.get i y hi
      refine ⟨p, [.int f.1, .int f.2], rfl, SqT.of hp, rfl, .int f.1, [.int f.2], rfl, .int f.2, [], rfl, rfl, ?_⟩
      have tk : fs.reverse.take (i + 1) = fs.reverse.take i ++ [f] := by rw [List.take_add_one, hf]; rfl
      have big : CMul ((fs.reverse.take i).foldl (fun a f => a * n + f.1) 0) n := .inr ⟨by omega, by omega⟩
      have big2 : CMul ((fs.reverse.take i).foldl (fun a f => a * n + f.2) 0) n := .inr ⟨by omega, by omega⟩
      refine ⟨_, rfl, _, rfl, _, _, rfl, rfl, big, _, rfl, _, _, rfl, rfl, ?_⟩
      refine ⟨_, rfl, _, rfl, _, _, rfl, rfl, big2, _, rfl, _, _, rfl, rfl, ?_⟩
      refine ⟨some (.int f.1), some (.int f.2), ?_, s4, hq, hF4⟩
      rw [tk, List.foldl_append, List.foldl_append]
      rfl
    · rintro σ H' ⟨v4, v5, rfl, s4, hq, hF4⟩
      refine ⟨_, rfl, _, rfl, (by show 2 ≤ sizeLine; decide), fun p np => ?_⟩
      refine k p _ (s4.free np) (s4.trans (same_new np)) ?_
      rw [upd_same]
      have full : fs.reverse.take xs.reverse.length = fs.reverse := by
        rw [hF4.len]
        exact List.take_length
      rw [full, List.foldl_reverse, List.foldl_reverse]
      rfl
theorem c_sides (T : Txt K mg) (C_check_arity : CalG P w K mg base 3 "check_arity" ["arity"] spCheckArity) (C_check_row : CalG P w K mg base 7 "check_row" ["row"] spCheckRow) (C_sums_of : CalG P w K mg base 1 "sums_of" ["arity", "row"] spSums) (D : DefAt K mg "sides_of" s_sides_of ["arity", "row"]) :
    CalG P w K mg base 8 "sides_of" ["arity", "row"] spSides := by
  refine calOk D sc_sides_of (fun xs H Q E h => ?_) (fun f cdv A out s H xs Q E hgd hr h => ?_)
  · obtain ⟨n, x, fs, rfl, _⟩ := h
    rfl
  · obtain ⟨n, x, fs, rfl, hn, hx, hb, k⟩ := h
    have nd := sc_sides_of.nd
    refine ⟨_, (pss_cons (ps_expr (pe_k C_check_arity hgd hr (by decide) rfl (pa_cons (pv 0) pa_nil)))
      (pss_cons (ps_expr (pe_k C_check_row hgd hr (by decide) rfl (pa_cons (pv 1) pa_nil)))
      (pss_one (ps_ret (pe_k C_sums_of hgd hr (by decide) rfl (pa_cons (pv 0) (pa_cons (pv 1) pa_nil))))))), ?_⟩
    refine ⟨_, rfl, n, rfl, hn, fun H1 s1 => ?_⟩
    refine ⟨_, rfl, x, _, rfl, hx.grow s1, hb, fun H2 s2 => ?_⟩
    have s12 := s1.trans s2
    exact ⟨_, rfl, _, rfl, n, x, fs, rfl, hn, hx.grow s12, fun p H3 np s3 hp => k p _ (s12.free np) (s12.trans s3) hp⟩
theorem c_length (T : Txt K mg) (C_sides_of : CalG P w K mg base 8 "sides_of" ["arity", "row"] spSides) (D : DefAt K mg "length_of" s_length_of ["arity", "row"]) :
    CalG P w K mg base 9 "length_of" ["arity", "row"] spLength := by
  refine calOk D sc_length_of (fun xs H Q E h => ?_) (fun f cdv A out s H xs Q E hgd hr h => ?_)
  · obtain ⟨n, x, fs, rfl, _⟩ := h
    rfl
  · obtain ⟨n, x, fs, rfl, hn, hx, hb, k⟩ := h
    have nd := sc_length_of.nd
    refine ⟨_, (pss_cons (ps_asg (pe_k C_sides_of hgd hr (by decide) rfl (pa_cons (pv 0) (pa_cons (pv 1) pa_nil))) (pg_tup (by rfl) (pgs_cons (pg_name (i := 2) nd rfl (.inl rfl)) (pgs_cons (pg_name (i := 3) nd rfl (.inl rfl)) pgs_nil))))
      (pss_one (ps_ret (pe_op op_add (pv 2) (pv 3))))), ?_⟩
    refine ⟨_, rfl, _, rfl, n, x, fs, rfl, hn, hx, hb, fun p H1 np s1 hp => ?_⟩
    refine ⟨p, [.int (sideL n fs), .int (sideR n fs)], rfl, SqT.of hp, rfl, .int (sideL n fs), [.int (sideR n fs)], rfl, .int (sideR n fs), [], rfl, rfl, ?_⟩
    refine ⟨_, rfl, _, rfl, _, _, rfl, rfl, ?_⟩
    exact k H1 s1
end
end G

set_option Elab.async false
set_option linter.all false
set_option maxRecDepth 100000
set_option maxHeartbeats 4000000
namespace G
open PySem PySem.Spec PyProof.Rows L2
theorem walk_enumT {K : PySem.W.Frag} {a : Addr} {xs : List V} : Walk (IteT K a) xs.length (fun H => SqT K H a xs) (YPair (fun i => some (.int (i : Nat))) (fun i => xs[i]?)) := by
  refine ⟨fun i _ lt hq => ⟨xs, xs[i], hq, by simp [lt]⟩, fun _ hq => ⟨xs, hq, Nat.le_refl _⟩, fun i H v G _ hq y => ?_⟩
  obtain ⟨T, x, e1, e2, e3, e4⟩ := y
  exact ⟨T, .int (i : Nat), x, e1, e2, e3, rfl, e4 xs hq⟩
/-! ## data of tuples, texts and numbers alone -/
mutual
inductive Tx (H : Hp) : V → PyData → Prop
  | non : Tx H .non .none
  | int (i : Int) : Tx H (.int i) (.int i)
  | str (x : Str) : Tx H (.str x) (.str x)
  | tup {a : Addr} {xs : List V} {ds : List PyData} : H a = some (.tup xs) → TxAll H xs ds → Tx H (.ref a) (.tuple ds)
inductive TxAll (H : Hp) : List V → List PyData → Prop
  | nil : TxAll H [] []
  | cons {x : V} {d : PyData} {xs : List V} {ds : List PyData} : Tx H x d → TxAll H xs ds → TxAll H (x :: xs) (d :: ds)
end
def TupK (H H' : Hp) : Prop := ∀ (p : Addr) (zs : List V), H p = some (.tup zs) → H' p = some (.tup zs)
theorem TupK.same {H H' : Hp} (s : Same H H') : TupK H H' := fun _ _ z => s _ _ z
mutual
theorem Tx.keep {H H' : Hp} (s : TupK H H') : ∀ {x : V} {d : PyData}, Tx H x d → Tx H' x d
  | _, _, .non => .non
  | _, _, .int i => .int i
  | _, _, .str x => .str x
  | _, _, .tup h a => .tup (s _ _ h) (TxAll.keep s a)
theorem TxAll.keep {H H' : Hp} (s : TupK H H') : ∀ {xs : List V} {ds : List PyData}, TxAll H xs ds → TxAll H' xs ds
  | _, _, .nil => .nil
  | _, _, .cons a b => .cons (Tx.keep s a) (TxAll.keep s b)
end
mutual
theorem Tx.dx {H : Hp} : ∀ {x : V} {d : PyData}, Tx H x d → Dx H x d
  | _, _, .non => .non
  | _, _, .int i => .int i
  | _, _, .str x => .str x
  | _, _, .tup h a => .tup h (TxAll.dx a)
theorem TxAll.dx {H : Hp} : ∀ {xs : List V} {ds : List PyData}, TxAll H xs ds → DxAll H xs ds
  | _, _, .nil => .nil
  | _, _, .cons a b => .cons (Tx.dx a) (TxAll.dx b)
end
theorem Tx.grow {H H' : Hp} {x : V} {d : PyData} (h : Tx H x d) (s : Same H H') : Tx H' x d := h.keep (TupK.same s)
theorem TxAll.grow {H H' : Hp} {xs : List V} {ds : List PyData} (h : TxAll H xs ds) (s : Same H H') : TxAll H' xs ds := h.keep (TupK.same s)
theorem TxAll.len {H : Hp} : ∀ {xs : List V} {ds : List PyData}, TxAll H xs ds → xs.length = ds.length
  | _, _, .nil => rfl
  | _, _, .cons _ b => by rw [List.length_cons, List.length_cons, TxAll.len b]
theorem TxAll.append {H : Hp} : ∀ {xs ys : List V} {ds es : List PyData}, TxAll H xs ds → TxAll H ys es → TxAll H (xs ++ ys) (ds ++ es)
  | _, _, _, _, .nil, h => h
  | _, _, _, _, .cons a b, h => .cons a (TxAll.append b h)
theorem TxAll.reverse {H : Hp} : ∀ {xs : List V} {ds : List PyData}, TxAll H xs ds → TxAll H xs.reverse ds.reverse
  | _, _, .nil => .nil
  | _, _, .cons a b => by
    rw [List.reverse_cons, List.reverse_cons]
    exact (TxAll.reverse b).append (.cons a .nil)
theorem TxAll.get {H : Hp} : ∀ {xs : List V} {ds : List PyData}, TxAll H xs ds → ∀ (i : Nat) (x : V), xs[i]? = some x → ∃ d, ds[i]? = some d ∧ Tx H x d
  | _, _, .nil, _, _, e => by cases e
  | _, _, .cons a b, 0, x, e => by
    cases e
    exact ⟨_, rfl, a⟩
  | _, _, .cons a b, i + 1, x, e => TxAll.get b i x e
theorem TxAll.getD {H : Hp} : ∀ {xs : List V} {ds : List PyData}, TxAll H xs ds → ∀ (i : Nat) (d : PyData), ds[i]? = some d → ∃ x, xs[i]? = some x ∧ Tx H x d
  | _, _, .nil, _, _, e => by cases e
  | _, _, .cons a b, 0, x, e => by
    cases e
    exact ⟨_, rfl, a⟩
  | _, _, .cons a b, i + 1, x, e => TxAll.getD b i x e
theorem Tx.tupOf {H : Hp} {x : V} {ds : List PyData} (h : Tx H x (.tuple ds)) : ∃ a xs, x = .ref a ∧ H a = some (.tup xs) ∧ TxAll H xs ds := by
  cases h with
  | tup h1 h2 => exact ⟨_, _, rfl, h1, h2⟩
theorem same_put {H H' : Hp} {D : Addr} {o : HO} (m : Same H H') (n : H D = none) : Same H (upd H' D o) := fun b u q => by
  rw [upd_ne (fun e => by rw [e, n] at q; cases q)]
  exact m b u q
theorem tupk_put {H : Hp} {l : Addr} {zs : List V} {o : HO} (hl : H l = some (.lst zs)) : TupK H (upd H l o) := fun p xs h => by
  rw [upd_ne (fun e => by rw [e, hl] at h; cases h)]
  exact h
theorem take_one {α : Type} {fs : List α} {i : Nat} {f : α} (h : fs[i]? = some f) : fs.take (i + 1) = fs.take i ++ [f] := by rw [List.take_add_one, h]; rfl
def castF (g : Nat × Nat) : Int × Int := ((g.1 : Int), (g.2 : Int))
def rowN (gs : List (Nat × Nat)) : List (Int × Int) := gs.map castF
def Small (gs : List (Nat × Nat)) : Prop := gs.length ≤ 5 ∧ ∀ g ∈ gs, g.1 ≤ 7 ∧ g.2 ≤ 7
def RowAt (H : Hp) (v : V) (fs : List (Int × Int)) : Prop := ∃ a xs, v = .ref a ∧ H a = some (.tup xs) ∧ FormsAt H xs fs
theorem RowAt.grow {H H' : Hp} {v : V} {fs : List (Int × Int)} (h : RowAt H v fs) (s : Same H H') : RowAt H' v fs := by
  obtain ⟨a, xs, e, h1, h2⟩ := h
  exact ⟨a, xs, e, s _ _ h1, h2.keep fun _ _ z => s _ _ z⟩
theorem FormsAt.dx0 {H : Hp} : ∀ {xs : List V} {fs : List (Int × Int)}, FormsAt H xs fs → DxAll H xs (fs.map formD)
  | _, _, .nil => .nil
  | _, _, .cons a b => .cons (.tup a (.cons (.int _) (.cons (.int _) .nil))) (FormsAt.dx0 b)
theorem RowAt.dx0 {H : Hp} {v : V} {fs : List (Int × Int)} (h : RowAt H v fs) : Dx H v (rowD fs) := by
  obtain ⟨a, xs, rfl, h1, h2⟩ := h
  exact .tup h1 h2.dx0
def szD (K : Nat) (b : Blk) : PyData := .tuple [.int (b.lev : Nat), .str b.side, .int (b.sz K : Nat)]
def spnD (s : Spn) : PyData := .tuple [.int (s.lev : Nat), .str s.side, .int (s.beg : Nat), .int (s.fin : Nat)]
def plcD (p : Plc) : PyData := .tuple [.int (p.lev : Nat), .str p.side, .int (p.idx : Nat), .tuple (p.path.map fun c => .int (c : Nat))]
theorem lefts_snoc (g : Nat × Nat) : ∀ (gs : List (Nat × Nat)) (i : Nat), lefts i (gs ++ [g]) = lefts i gs ++ [⟨i + gs.length, "left", g.1⟩]
  | [], i => rfl
  | x :: r, i => by
    have := lefts_snoc g r (i + 1)
    simp only [List.cons_append, lefts, this, List.length_cons]
    rw [show i + 1 + r.length = i + (r.length + 1) by omega]
theorem rights_snoc (g : Nat × Nat) : ∀ (gs : List (Nat × Nat)) (i : Nat), rights i (gs ++ [g]) = rights i gs ++ [⟨i + gs.length, "right", g.2⟩]
  | [], i => rfl
  | x :: r, i => by
    have := rights_snoc g r (i + 1)
    simp only [List.cons_append, rights, this, List.length_cons]
    rw [show i + 1 + r.length = i + (r.length + 1) by omega]
theorem lefts_len : ∀ (gs : List (Nat × Nat)) (i : Nat), (lefts i gs).length = gs.length ∧ (rights i gs).length = gs.length
  | [], _ => ⟨rfl, rfl⟩
  | g :: r, i => by
    have := lefts_len r (i + 1)
    simp only [lefts, rights, List.length_cons, this.1, this.2, and_self]
theorem spansB_app (K : Nat) : ∀ (xs ys : List Blk) (a : Nat), spansB K a (xs ++ ys) = spansB K a xs ++ spansB K (a + total K xs) ys
  | [], ys, a => rfl
  | b :: r, ys, a => by
    have e : a + total K (b :: r) = a + b.sz K + total K r := by
      show a + (b.sz K + total K r) = _
      omega
    rw [List.cons_append, spansB, spansB, e, spansB_app K r ys]
    split <;> rfl
theorem spansB_len (K : Nat) : ∀ (bs : List Blk) (a : Nat), (spansB K a bs).length ≤ bs.length
  | [], _ => Nat.le_refl _
  | b :: r, a => by
    have := spansB_len K r (a + b.sz K)
    rw [spansB]
    split <;> simp only [List.length_cons] <;> omega
theorem total_snoc (K : Nat) (xs : List Blk) (b : Blk) : total K (xs ++ [b]) = total K xs + b.sz K := by
  simp [total]
def spSpansB : Sp := fun vs H Q _ => ∃ (k : Nat) (x : V) (gs : List (Nat × Nat)), vs = [.int (k : Nat), x] ∧ (k = 2 ∨ k = 3) ∧ RowAt H x (rowN gs) ∧ Small gs ∧
  ∀ v H', Same H H' → Tx H' v (.tuple ((spansB k 0 (blocks gs)).map spnD)) → Q v H'
section
variable {P : Program} {w : World} {K : PySem.W.Frag} {mg : Str → Option Value} {base : Heap}
theorem c_spans_ (T : Txt K mg) (D : DefAt K mg "_spans" s__spans ["arity", "row"]) : CalG P w K mg base 1 "_spans" ["arity", "row"] spSpansB := by
  refine calOk D sc__spans (fun xs H Q E h => ?_) (fun f cdv A out s H xs Q E hgd hr h => ?_)
  · obtain ⟨k, x, gs, rfl, _⟩ := h
    rfl
  · obtain ⟨kk, x, gs, rfl, hk, hx, hsm, k⟩ := h
    have nd := sc__spans.nd
    refine ⟨_, (pss_cons (ps_set (i := 2) nd rfl (.inl rfl) (pe_lst pa_nil))
      (pss_cons (ps_set (i := 3) nd rfl (.inl rfl) pe_int)
      (pss_cons (ps_for PassesOwn.never rfl (pi_enumT (by rfl) T.enumerate (pa_cons (pv 1) pa_nil)) (pg_tup (by rfl) (pgs_cons (pg_name (i := 4) nd rfl (.inl rfl)) (pgs_cons (pg_tup (by rfl) (pgs_cons (pg_name (i := 5) nd rfl (.inl rfl)) (pgs_cons (pg_name (i := 6) nd rfl (.inl rfl)) pgs_nil))) pgs_nil))) (pss_cons (ps_expr (pe_bm PySem.F.plainAttrs_list PySem.F.slot_list_append PySem.F.type_list_append mt_append (pv 2) (pa_cons (pe_tup (pa_cons (pv 4) (pa_cons pe_str (pa_cons (pe_op op_mul (pv 5) (pv 3)) pa_nil)))) pa_nil)))
        (pss_cons (ps_expr (pe_bm PySem.F.plainAttrs_list PySem.F.slot_list_append PySem.F.type_list_append mt_append (pv 2) (pa_cons (pe_tup (pa_cons (pv 4) (pa_cons pe_str (pa_cons (pe_op op_mul (pv 6) (pv 3)) pa_nil)))) pa_nil)))
        (pss_one (ps_set (i := 3) nd rfl (.inl rfl) (pe_op op_mul (pv 3) (pv 0)))))))
      (pss_cons (ps_set (i := 7) nd rfl (.inl rfl) (pe_lst pa_nil))
      (pss_cons (ps_set (i := 8) nd rfl (.inl rfl) pe_int)
      (pss_cons (ps_for PassesOwn.never rfl (pi_list (pe_op op_cat (pe_step2 (pv 2)) (pe_stepB (pv 2)))) (pg_tup (by rfl) (pgs_cons (pg_name (i := 4) nd rfl (.inl rfl)) (pgs_cons (pg_name (i := 9) nd rfl (.inl rfl)) (pgs_cons (pg_name (i := 10) nd rfl (.inl rfl)) pgs_nil)))) (pss_cons (ps_if (pt_cmpR op_gt (pv 10) pe_int (nomark _)) (pss_one (ps_expr (pe_bm PySem.F.plainAttrs_list PySem.F.slot_list_append PySem.F.type_list_append mt_append (pv 7) (pa_cons (pe_tup (pa_cons (pv 4) (pa_cons (pv 9) (pa_cons (pv 8) (pa_cons (pe_op op_add (pv 8) (pv 10)) pa_nil))))) pa_nil)))) pss_nil)
        (pss_one (ps_set (i := 8) nd rfl (.inl rfl) (pe_op op_add (pv 8) (pv 10))))))
      (pss_one (ps_ret (pe_callTy call_tuple_of (by rfl) T.tuple (by decide +kernel) (pa_cons (pv 7) pa_nil)))))))))), ?_⟩
    obtain ⟨a, xs, rfl, ha, hF⟩ := hx
    have lx := hF.len
    have lg : (rowN gs).length = gs.length := List.length_map ..
    refine ⟨(by show 0 ≤ sizeLine; decide), fun q nq => ?_⟩
    have s1 := same_new (o := .lst []) nq
    refine ⟨_, rfl, a, xs, rfl, SqT.of (s1 _ _ ha), ?_⟩
    refine for_it (walk_enumT (K := K) (a := a) (xs := xs)) (fun i σ H' => ∃ (v4 v5 v6 v7 v8 v9 v10 : Option V) (A B : List V), σ = [some (.int (kk : Nat)), some (.ref a), some (.ref q), some (.int ((kk ^ i : Nat) : Int)), v4, v5, v6, v7, v8, v9, v10] ∧ Same H H' ∧
      H' q = some (.lst (inter A B)) ∧ TxAll H' A ((lefts 0 (gs.take i)).map (szD kk)) ∧ TxAll H' B ((rights 0 (gs.take i)).map (szD kk))) ?_ ?_ ?_ ?_
    · exact ⟨_, _, _, _, _, _, _, [], [], (by rw [Nat.pow_zero]; rfl), s1, upd_same, .nil, .nil⟩
    · rintro i σ H' _ ⟨_, _, _, _, _, _, _, _, _, _, s2, _⟩
      exact SqT.of (s2 _ _ ha)
    · rintro i y σ H2 H3 hi ⟨v4, v5, v6, v7, v8, v9, v10, A, B, rfl, s2, hq, hA, hB⟩ ⟨Tp, x1, x2, rfl, nT, rfl, e1, e2⟩
      cases e1
      obtain ⟨p, f, rfl, hf, hp⟩ := hF.get i x2 e2
      have hil : i < gs.length := by omega
      obtain ⟨g, hg, rfl⟩ : ∃ g, gs[i]? = some g ∧ castF g = f := by
        have : (rowN gs)[i]? = some f := hf
        rw [rowN, List.getElem?_map] at this
        exact Option.map_eq_some_iff.mp this
      obtain ⟨g7, g8⟩ := hsm.2 g (List.mem_of_getElem? hg)
      have s3 := same_new (o := .tup [.int (i : Nat), .ref p]) nT
      have lA : A.length = i := by rw [hA.len, List.length_map, (lefts_len _ _).1, List.length_take]; omega
      have lB : B.length = i := by rw [hB.len, List.length_map, (lefts_len _ _).2, List.length_take]; omega
      have li : (inter A B).length ≤ 100 := by
        rw [inter_len (by omega)]
        have := hsm.1
        omega
      have hq3 := s3 _ _ hq
      refine ⟨Tp, _, rfl, SqT.of upd_same, rfl, _, _, rfl, _, _, rfl, p, _, rfl, SqT.of (s3 _ _ (s2 _ _ hp)), rfl, _, _, rfl, _, _, rfl, rfl, rfl, ?_⟩
      refine ⟨_, rfl, .inl ⟨rfl, _, SqL.of hq3⟩, _, rfl, _, rfl, _, rfl, _, _, rfl, rfl, .inl ⟨by simp only [castF]; omega, by simp only [castF]; omega⟩, (by show 3 ≤ sizeLine; decide), fun p1 n1 => ?_⟩
      have s4 := same_new (o := .tup [.int (i : Nat), .str "left", .int ((castF g).1 * ((kk ^ i : Nat) : Int))]) n1
      have hq4 := s4 _ _ hq3
      refine ⟨q, _, _, rfl, rfl, hq4, small1000 (by omega), ?_⟩
      have k5 : TupK (upd (upd H2 Tp (.tup [.int (i : Nat), .ref p])) p1 (.tup [.int (i : Nat), .str "left", .int ((castF g).1 * ((kk ^ i : Nat) : Int))])) _ := tupk_put (o := .lst (inter A B ++ [.ref p1])) hq4
      have m5 := same_put (o := .lst (inter A B ++ [.ref p1])) (s2.trans (s3.trans s4)) nq
      have at1 := k5 _ _ (upd_same (H := upd H2 Tp (.tup [.int (i : Nat), .ref p])) (a := p1) (o := .tup [.int (i : Nat), .str "left", .int ((castF g).1 * ((kk ^ i : Nat) : Int))]))
      have hA5 := (hA.grow (s3.trans s4)).keep k5
      have hB5 := (hB.grow (s3.trans s4)).keep k5
      generalize hG : upd (upd (upd H2 Tp (.tup [.int (i : Nat), .ref p])) p1 (.tup [.int (i : Nat), .str "left", .int ((castF g).1 * ((kk ^ i : Nat) : Int))])) q (.lst (inter A B ++ [.ref p1])) = H5 at *
      have hq5 : H5 q = some (.lst (inter A B ++ [.ref p1])) := by rw [← hG]; exact upd_same
      clear hG k5
      refine ⟨_, rfl, .inl ⟨rfl, _, SqL.of hq5⟩, _, rfl, _, rfl, _, rfl, _, _, rfl, rfl, .inl ⟨by simp only [castF]; omega, by simp only [castF]; omega⟩, (by show 3 ≤ sizeLine; decide), fun p2 n2 => ?_⟩
      have s6 := same_new (o := .tup [.int (i : Nat), .str "right", .int ((castF g).2 * ((kk ^ i : Nat) : Int))]) n2
      have hq6 := s6 _ _ hq5
      refine ⟨q, _, _, rfl, rfl, hq6, small1000 (by rw [List.length_append]; simp; omega), ?_⟩
      have k7 : TupK (upd H5 p2 (.tup [.int (i : Nat), .str "right", .int ((castF g).2 * ((kk ^ i : Nat) : Int))])) _ := tupk_put (o := .lst (inter A B ++ [.ref p1] ++ [.ref p2])) hq6
      refine ⟨_, rfl, _, rfl, _, _, rfl, rfl, .inr ⟨by omega, by omega⟩, ?_⟩
      refine ⟨some (.int (i : Nat)), some (.int (castF g).1), some (.int (castF g).2), v7, v8, v9, v10, A ++ [.ref p1], B ++ [.ref p2], ?_, same_put (m5.trans s6) nq, ?_, ?_, ?_⟩
      · rw [show ((kk ^ (i + 1) : Nat) : Int) = ((kk ^ i : Nat) : Int) * ((kk : Nat) : Int) by rw [Nat.pow_succ]; exact Int.natCast_mul ..]
        rfl
      · rw [upd_same, inter_app (by omega), List.append_assoc]
        rfl
      · rw [take_one hg, lefts_snoc, List.map_append, List.length_take, Nat.min_eq_left (by omega), Nat.zero_add]
        refine ((hA5.grow s6).keep k7).append (.cons (.tup (k7 _ _ (s6 _ _ at1)) (.cons (.int _) (.cons (.str _) (.cons ?_ .nil)))) .nil)
        have : (((⟨i, "left", g.1⟩ : Blk).sz kk : Nat) : Int) = (castF g).1 * ((kk ^ i : Nat) : Int) := Int.natCast_mul ..
        rw [this]
        exact .int _
      · rw [take_one hg, rights_snoc, List.map_append, List.length_take, Nat.min_eq_left (by omega), Nat.zero_add]
        refine ((hB5.grow s6).keep k7).append (.cons (.tup (k7 _ _ upd_same) (.cons (.int _) (.cons (.str _) (.cons ?_ .nil)))) .nil)
        have : (((⟨i, "right", g.2⟩ : Blk).sz kk : Nat) : Int) = (castF g).2 * ((kk ^ i : Nat) : Int) := Int.natCast_mul ..
        rw [this]
        exact .int _
    · rintro σ H2 ⟨v4, v5, v6, v7, v8, v9, v10, A, B, rfl, s2, hq, hA, hB⟩
      rw [lx, lg, List.take_length] at hA hB
      have lA : A.length = gs.length := by rw [hA.len, List.length_map, (lefts_len _ _).1]
      have lB : B.length = gs.length := by rw [hB.len, List.length_map, (lefts_len _ _).2]
      have l5 := hsm.1
      refine ⟨(by show 0 ≤ sizeLine; decide), fun q2 n2 => ?_⟩
      have s3 := same_new (o := .lst []) n2
      have hq3 := s3 _ _ hq
      have li := inter_len (xs := A) (ys := B) (by omega)
      have p2e := pick_even (xs := A) (ys := B) (by omega)
      have p2b := pick_back (xs := A) (ys := B) (by omega)
      have fit : ∀ c : Int, c = 2 ∨ c = -2 → (stepIx c (inter A B).length).length ≤ sizeLine := by
        rintro c (rfl | rfl)
        · rw [li, step2_ix, List.length_map, List.length_range]
          exact Nat.le_of_lt (small1000 (by omega))
        · rw [li, stepB_ix, List.length_map, List.length_range]
          exact Nat.le_of_lt (small1000 (by omega))
      refine ⟨_, rfl, q, _, rfl, SqL.of hq3, fit 2 (.inl rfl), fun r1 m1 => ?_⟩
      rw [p2e]
      have s4 := same_new (o := .lst A) m1
      refine ⟨_, rfl, q, _, rfl, SqL.of (s4 _ _ hq3), fit (-2) (.inr rfl), fun r2 m2 => ?_⟩
      rw [p2b]
      have s5 := same_new (o := .lst B.reverse) m2
      refine ⟨r1, r2, A, B.reverse, rfl, rfl, s5 _ _ upd_same, upd_same, Nat.le_of_lt (small1000 (by rw [List.length_reverse]; omega)), fun r m3 => ?_⟩
      have s6 := same_new (o := .lst (A ++ B.reverse)) m3
      have sH := (((s2.trans s3).trans s4).trans s5).trans s6
      have s36 := (s3.trans s4).trans (s5.trans s6)
      have hX := (hA.grow s36).append (hB.grow s36).reverse
      rw [← List.map_reverse, ← List.map_append, show lefts 0 gs ++ (rights 0 gs).reverse = blocks gs from rfl] at hX
      have hr6 : upd (upd (upd (upd H2 q2 (.lst [])) r1 (.lst A)) r2 (.lst B.reverse)) r (.lst (A ++ B.reverse)) r = some (.lst (A ++ B.reverse)) := upd_same
      have hf0 := (s4.trans (s5.trans s6)) _ _ (upd_same (H := H2) (a := q2) (o := .lst []))
      have nq2 : H q2 = none := s2.free n2
      have ner : r ≠ q2 := fun e => by
        have := (s4.trans s5) _ _ (upd_same (H := H2) (a := q2) (o := .lst []))
        rw [e] at m3
        rw [m3] at this
        cases this
      generalize upd (upd (upd (upd H2 q2 (.lst [])) r1 (.lst A)) r2 (.lst B.reverse)) r (.lst (A ++ B.reverse)) = H6 at *
      have lb : (blocks gs).length ≤ 10 := by
        unfold blocks
        rw [List.length_append, List.length_reverse, (lefts_len _ _).1, (lefts_len _ _).2]
        omega
      have lX := hX.len
      rw [List.length_map] at lX
      refine ⟨r, rfl, ⟨_, SqL.of hr6⟩, ?_⟩
      refine for_list (K := K) (a := r) (xs := A ++ B.reverse) (fun i σ H' => ∃ (v2 v3 v4 v5 v6 v9 v10 : Option V) (ys : List V), σ = [some (.int (kk : Nat)), some (.ref a), v2, v3, v4, v5, v6, some (.ref q2), some (.int ((total kk ((blocks gs).take i) : Nat) : Int)), v9, v10] ∧ Same H H' ∧
        H' r = some (.lst (A ++ B.reverse)) ∧ TxAll H' (A ++ B.reverse) ((blocks gs).map (szD kk)) ∧ H' q2 = some (.lst ys) ∧ TxAll H' ys ((spansB kk 0 ((blocks gs).take i)).map spnD)) ?_ ?_ ?_ ?_
      · exact ⟨_, _, _, _, _, _, _, [], rfl, sH, hr6, hX, hf0, .nil⟩
      · rintro i σ H' _ ⟨_, _, _, _, _, _, _, _, _, _, hr', _⟩
        exact SqL.of hr'
      · rintro i y σ H7 hi ⟨v2, v3, v4, v5, v6, v9, v10, ys, rfl, s7, hr7, hX7, hf7, hY7⟩
        obtain ⟨d, hd, hy⟩ := hX7.get i y hi
        rw [List.getElem?_map] at hd
        obtain ⟨b, hb, rfl⟩ := Option.map_eq_some_iff.mp hd
        obtain ⟨p, zs, rfl, hp, hz⟩ := hy.tupOf
        have ez : zs = [.int (b.lev : Nat), .str b.side, .int (b.sz kk : Nat)] := by
          cases hz with
          | cons z1 r1 => cases r1 with
            | cons z2 r2 => cases r2 with
              | cons z3 r3 =>
                cases r3
                cases z1
                cases z2
                cases z3
                rfl
        subst ez
        have tk := take_one hb
        have ly : ys.length ≤ 10 := by
          have h1 := hY7.len
          have h2 := spansB_len kk ((blocks gs).take i) 0
          rw [List.length_map] at h1
          rw [List.length_take] at h2
          omega
        have tt : total kk ((blocks gs).take (i + 1)) = total kk ((blocks gs).take i) + b.sz kk := by rw [tk, total_snoc]
        have ss : spansB kk 0 ((blocks gs).take (i + 1)) = spansB kk 0 ((blocks gs).take i) ++ spansB kk (total kk ((blocks gs).take i)) [b] := by rw [tk, spansB_app, Nat.zero_add]
        refine ⟨p, _, rfl, SqT.of hp, rfl, _, _, rfl, _, _, rfl, _, _, rfl, rfl, ?_⟩
        refine a_if (fun c H' => c = decide (0 < b.sz kk) ∧ H7 = H') (fun Q' kQ => ⟨_, rfl, _, _, rfl, rfl, _, rfl, kQ _ _ ⟨?_, rfl⟩⟩) ?_ ?_
        · exact decide_eq_decide.mpr (by omega)
        · rintro _ ⟨hc, rfl⟩
          have pos : 0 < b.sz kk := of_decide_eq_true hc.symm
          refine ⟨_, rfl, .inl ⟨rfl, _, SqL.of hf7⟩, _, rfl, _, rfl, _, rfl, _, rfl, _, rfl, _, _, rfl, rfl, (by show 4 ≤ sizeLine; decide), fun p4 n4 => ?_⟩
          have s8 := same_new (o := .tup [.int (b.lev : Nat), .str b.side, .int (total kk ((blocks gs).take i) : Nat), .int (((total kk ((blocks gs).take i) : Nat) : Int) + ((b.sz kk : Nat) : Int))]) n4
          have hf8 := s8 _ _ hf7
          refine ⟨q2, _, _, rfl, rfl, hf8, small1000 (by omega), ?_⟩
          have k9 : TupK (upd H7 p4 (.tup [.int (b.lev : Nat), .str b.side, .int (total kk ((blocks gs).take i) : Nat), .int (((total kk ((blocks gs).take i) : Nat) : Int) + ((b.sz kk : Nat) : Int))])) _ := tupk_put (o := .lst (ys ++ [.ref p4])) hf8
          refine ⟨_, rfl, _, rfl, _, _, rfl, rfl, ?_⟩
          refine ⟨v2, v3, some (.int (b.lev : Nat)), v5, v6, some (.str b.side), some (.int (b.sz kk : Nat)), ys ++ [.ref p4], ?_, same_put (s7.trans s8) nq2, ?_, (hX7.grow s8).keep k9, upd_same, ?_⟩
          · rw [tt]
            rfl
          · rw [upd_ne ner]
            exact s8 _ _ hr7
          · rw [ss, spansB, if_pos pos, List.map_append]
            refine ((hY7.grow s8).keep k9).append (.cons (.tup (k9 _ _ upd_same) (.cons (.int _) (.cons (.str _) (.cons (.int _) (.cons (.int _) .nil))))) .nil)
        · rintro _ ⟨hc, rfl⟩
          have pos : ¬ 0 < b.sz kk := of_decide_eq_false hc.symm
          refine go_nx ?_
          refine ⟨_, rfl, _, rfl, _, _, rfl, rfl, ?_⟩
          refine ⟨v2, v3, some (.int (b.lev : Nat)), v5, v6, some (.str b.side), some (.int (b.sz kk : Nat)), ys, ?_, s7, hr7, hX7, hf7, ?_⟩
          · rw [tt]
            rfl
          · rw [ss, spansB, if_neg pos]
            simpa [spansB] using hY7
      · rintro σ H7 ⟨v2, v3, v4, v5, v6, v9, v10, ys, rfl, s7, hr7, hX7, hf7, hY7⟩
        rw [lX, List.take_length] at hY7
        refine ⟨_, rfl, q2, ys, rfl, .inl ⟨SqL.of hf7, fun p np => ?_⟩⟩
        have s8 := same_new (o := .tup ys) np
        exact k _ _ (s7.trans s8) (.tup upd_same (hY7.grow s8))
end
end G

set_option Elab.async false
set_option linter.all false
set_option maxRecDepth 100000
set_option maxHeartbeats 4000000
namespace G
open PySem PySem.Spec PyProof.Rows L2
/-! ## the sides, and what is no member of them -/
structure TxtS (K : PySem.W.Frag) (mg : Str → Option Value) (aS : Addr) : Prop where
  g : ∃ u, mg "SIDES" = some u ∧ RelV (.ref aS) u
  at_ : ∃ (o : Obj) (t1 t2 : Tok) (n : Nat), K.lookup aS = some o ∧ o.cls = .type "tuple" ∧ o.dict = none ∧ o.data = .seq #[.str "left" t1, .str "right" t2] n
theorem TxtS.sq {K : PySem.W.Frag} {mg : Str → Option Value} {aS : Addr} (S : TxtS K mg aS) (H : Hp) : SqT K H aS [.str "left", .str "right"] := by
  obtain ⟨o, t1, t2, n, h1, h2, _, h3⟩ := S.at_
  exact .inr ⟨o, _, n, h1, h2, h3, by show 2 ≤ sizeLine; decide, .cons ⟨_, rfl⟩ (.cons ⟨_, rfl⟩ .nil)⟩
theorem TxtS.kind {K : PySem.W.Frag} {mg : Str → Option Value} {aS : Addr} (S : TxtS K mg aS) : ∃ o, K.lookup aS = some o ∧ o.cls = .type "tuple" ∧ o.dict = none := by
  obtain ⟨o, t1, t2, n, h1, h2, h3, _⟩ := S.at_
  exact ⟨o, h1, h2, h3⟩
def sidesD : List PyData := [.str "left", .str "right"]
def rNotInT (K : PySem.W.Frag) : R2 := fun x y H Q => ∃ (d : PyData) (ds : List PyData), Dp K H x d ∧ Dp K H y (.tuple ds) ∧ SeqAt.shaped d = true ∧ PyData.canLayAll0 ds = true ∧ PyData.depthAll ds ≤ 60 ∧ Q (.bl (!ds.any fun z => PyData.eqv z d)) H
theorem op_notInT {X : Cx} (hu : X.A.units + 65 < cLine) : OpR X (compareOp .NotIn) (rNotInT X.K) := by
  intro pins s σ H x y v u Q I rx ry h
  obtain ⟨d, ds, hd, he, sd, ce, de, q⟩ := h
  obtain ⟨as, r1⟩ := Dp.reads I d x v hd rx
  obtain ⟨bs, r2⟩ := Dp.reads I (.tuple ds) y u he ry
  exact SeqAt.notIn_tuple_reads r2 r1 ce (SeqAt.canLay_of_shaped sd) (by omega) ⟨.bl _, H, I, rfl, q⟩
/-! ## what a place is -/
def pathB (k : Nat) (lv : Int) : PyData → Bool
  | .tuple ds => decide ((ds.length : Int) = lv) && ds.all fun d => within d 0 ((k : Int) - 1)
  | _ => false
def manyAt (gs : List (Nat × Nat)) (a s : PyData) : Int := match a with
  | .int lv => match gs[lv.toNat]? with
    | some g => if PyData.eqv (.str "left") s then (g.1 : Int) else (g.2 : Int)
    | none => 0
  | _ => 0
def levOf : PyData → Int
  | .int lv => lv
  | _ => 0
def placeB (k : Nat) (gs : List (Nat × Nat)) : PyData → Bool
  | .tuple [a, s, i, p] => within a 0 ((gs.length : Int) - 1) && ((sidesD.any fun z => PyData.eqv z s) && (within i 0 (manyAt gs a s - 1) && pathB k (levOf a) p))
  | _ => false
def spIsPlace : Sp := fun vs H Q _ => ∃ (k : Nat) (x y : V) (gs : List (Nat × Nat)) (d : PyData), vs = [.int (k : Nat), x, y] ∧ (k = 2 ∨ k = 3) ∧ RowAt H x (rowN gs) ∧ Small gs ∧ rowB (rowD (rowN gs)) = true ∧ Dx H y d ∧
  (∀ a s i p, d = .tuple [a, s, i, p] → s.hasDict = false ∧ SeqAt.shaped s = true) ∧ ∀ H', Same H H' → Q (.bl (placeB k gs d)) H'
def is4 : PyData → Bool
  | .tuple [_, _, _, _] => true
  | _ => false
theorem is4_len (ds : List PyData) : is4 (.tuple ds) = decide (ds.length = 4) := by
  match ds with
  | [] => rfl
  | [_] => rfl
  | [_, _] => rfl
  | [_, _, _] => rfl
  | [_, _, _, _] => rfl
  | _ :: _ :: _ :: _ :: _ :: r => simp [is4]
theorem sides_any {s : PyData} (h : (sidesD.any fun z => PyData.eqv z s) = true) : s = .str "left" ∨ s = .str "right" := by
  cases s with
  | str z =>
    simp only [sidesD, List.any_cons, List.any_nil, Bool.or_false, Bool.or_eq_true, PyData.eqv, beq_iff_eq] at h
    rcases h with h | h
    · exact .inl (by rw [← h])
    · exact .inr (by rw [← h])
  | _ => simp [sidesD, PyData.eqv] at h
theorem many_at {gs : List (Nat × Nat)} {n : Nat} {g : Nat × Nat} (hg : gs[n]? = some g) : manyAt gs (.int (n : Nat)) (.str "left") = (g.1 : Nat) ∧ manyAt gs (.int (n : Nat)) (.str "right") = (g.2 : Nat) := by
  have e1 : PyData.eqv (.str "left") (.str "left") = true := by decide +kernel
  have e2 : PyData.eqv (.str "left") (.str "right") = false := by decide +kernel
  simp only [manyAt, Int.toNat_natCast, hg, e1, e2, if_true, Bool.false_eq_true, if_false, and_self]
theorem hu65 {k : Nat} {A : Around} (hr : Room k A) : A.units + 65 < cLine := by
  have := hr.un
  omega
section
variable {P : Program} {w : World} {K : PySem.W.Frag} {mg : Str → Option Value} {base : Heap}
theorem c_is_place {aS : Addr} (T : Txt K mg) (TS : TxtS K mg aS) (C_is_within : CalG P w K mg base 2 "is_within" ["value", "least", "greatest"] spWithin) (C_check_arity : CalG P w K mg base 3 "check_arity" ["arity"] spCheckArity)
    (C_check_row : CalG P w K mg base 7 "check_row" ["row"] spCheckRow) (D : DefAt K mg "is_place" s_is_place ["arity", "row", "value"]) : CalG P w K mg base 8 "is_place" ["arity", "row", "value"] spIsPlace := by
  refine calOk D sc_is_place (fun xs H Q E h => ?_) (fun f cdv A out s H xs Q E hgd hr h => ?_)
  · obtain ⟨k, x, y, gs, d, rfl, _⟩ := h
    rfl
  · obtain ⟨kk, x, y, gs, d, rfl, hk, hx, hsm, hb, hy, hd, k⟩ := h
    have nd := sc_is_place.nd
    refine ⟨_, (pss_cons (ps_expr (pe_k C_check_arity hgd hr (by decide) rfl (pa_cons (pv 0) pa_nil)))
      (pss_cons (ps_expr (pe_k C_check_row hgd hr (by decide) rfl (pa_cons (pv 1) pa_nil)))
      (pss_cons (ps_if (PW.pt (pw_or (pt_not (pt_val (pe_callB call_isi (by rfl) T.isinstance (by decide +kernel) (pa_cons (pv 2) (pa_cons (pe_ty "tuple" rfl T.tuple (by decide +kernel)) pa_nil))))) (pw_or1 (pt_cmpR op_ne (pe_callB call_len_seq (by rfl) T.len (by decide +kernel) (pa_cons (pv 2) pa_nil)) pe_int (nomark _))))) (pss_one (ps_ret pe_bl)) pss_nil)
      (pss_cons (ps_asg (pv 2) (pg_tup (by rfl) (pgs_cons (pg_name (i := 3) nd rfl (.inl rfl)) (pgs_cons (pg_name (i := 4) nd rfl (.inl rfl)) (pgs_cons (pg_name (i := 5) nd rfl (.inl rfl)) (pgs_cons (pg_name (i := 6) nd rfl (.inl rfl)) pgs_nil))))))
      (pss_cons (ps_if (PW.pt (pw_or (pt_not (pt_val (pe_k C_is_within hgd hr (by decide) rfl (pa_cons (pv 3) (pa_cons pe_int (pa_cons (pe_op op_sub (pe_callB call_len_seq (by rfl) T.len (by decide +kernel) (pa_cons (pv 1) pa_nil)) pe_int) pa_nil)))))) (pw_or1 (pt_cmpR (op_notInT (hu65 hr)) (pv 4) (pe_gv rfl TS.g) rfl)))) (pss_one (ps_ret pe_bl)) pss_nil)
      (pss_cons (ps_if (pt_not (pt_val (pe_k C_is_within hgd hr (by decide) rfl (pa_cons (pv 5) (pa_cons pe_int (pa_cons (pe_op op_sub (pe_ix ix_tup (pe_ix ix_tup (pv 1) (pv 3) (fun _ _ => rfl)) (pe_bm PySem.F.plainAttrs_tuple PySem.F.slot_tuple_index PySem.F.type_tuple_index mt_tup_index (pe_gv rfl TS.g) (pa_cons (pv 4) pa_nil)) (fun _ _ => rfl)) pe_int) pa_nil)))))) (pss_one (ps_ret pe_bl)) pss_nil)
      (pss_one (ps_ret (pe_and (pe_callB call_isi (by rfl) T.isinstance (by decide +kernel) (pa_cons (pv 6) (pa_cons (pe_ty "tuple" rfl T.tuple (by decide +kernel)) pa_nil))) (pe_and (pe_cmpR op_eq (pe_callB call_len_seq (by rfl) T.len (by decide +kernel) (pa_cons (pv 6) pa_nil)) (pv 3) (nomark _)) (pe_one (pe_callB (cr_all rfl) (by rfl) T.all (by decide +kernel) (pa_cons (pe_lc (own := [("part", 7)]) (g := gName 7) (by rfl) nd (pi_tup (pv 6)) (blkOk_by (own := [("part", 7)]) (N := N_is_place) (sc := defScope s_is_place) (by decide +kernel)) (fun _ _ _ _ _ => pg_name (i := 7) nd rfl (.inl rfl)) (fun _ _ _ _ _ => pts_nil) (fun _ _ _ _ _ => pe_k C_is_within hgd hr (by decide) rfl (pa_cons (pv 7) (pa_cons pe_int (pa_cons (pe_op op_sub (pv 0) pe_int) pa_nil))))) pa_nil))))))))))))), ?_⟩
    refine ⟨_, rfl, (kk : Nat), rfl, by omega, fun H1 s1 => ?_⟩
    refine ⟨_, rfl, x, _, rfl, (hx.grow s1).dx0, hb, fun H2 s2 => ?_⟩
    have s12 := s1.trans s2
    replace hy := hy.grow s12
    replace hx := hx.grow s12
    refine go_nx ?_
    refine a_if (fun b H' => b = !is4 d ∧ H2 = H') (fun Q' kQ => ?_) ?_ ?_
    · cases hy with
      | tup h1 h2 =>
        have hl := h2.len
        refine ⟨_, rfl, _, _, _, _, true, rfl, .ty _, Dx.ty (.tup h1 h2), kit_ty (by show kitB "tuple" _ = _; decide +kernel), true, rfl, ?_⟩
        refine iteF ⟨_, rfl, _, _, rfl, .inr (SqT.of h1), rfl, _, congrArg V.bl (?_ : _ = !is4 _), kQ _ _ ⟨rfl, rfl⟩⟩
        rw [is4_len]
        congr 1
        refine decide_eq_decide.mpr ⟨fun e => ?_, fun e => ?_⟩
        · have := V.int.inj e
          omega
        · rw [hl, e]
          rfl
      | int i => exact ⟨_, rfl, _, _, _, _, false, rfl, .ty _, Dx.ty (.int i), kit_ty (by show kitB "int" _ = _; decide +kernel), false, rfl, iteT (kQ _ _ ⟨rfl, rfl⟩)⟩
      | bl b => exact ⟨_, rfl, _, _, _, _, false, rfl, .ty _, Dx.ty (.bl b), kit_ty (by show kitB "bool" _ = _; decide +kernel), false, rfl, iteT (kQ _ _ ⟨rfl, rfl⟩)⟩
      | non => exact ⟨_, rfl, _, _, _, _, false, rfl, .ty _, Dx.ty .non, kit_ty (by decide +kernel), false, rfl, iteT (kQ _ _ ⟨rfl, rfl⟩)⟩
      | str x => exact ⟨_, rfl, _, _, _, _, false, rfl, .ty _, Dx.ty (.str x), kit_ty (by show kitB "str" _ = _; decide +kernel), false, rfl, iteT (kQ _ _ ⟨rfl, rfl⟩)⟩
      | lst h1 h2 => exact ⟨_, rfl, _, _, _, _, false, rfl, .ty _, Dx.ty (.lst h1 h2), kit_ty (by show kitB "list" _ = _; decide +kernel), false, rfl, iteT (kQ _ _ ⟨rfl, rfl⟩)⟩
      | dct h1 h2 => exact ⟨_, rfl, _, _, _, _, false, rfl, .ty _, Dx.ty (.dct h1 h2), kit_ty (by show kitB "dict" _ = _; decide +kernel), false, rfl, iteT (kQ _ _ ⟨rfl, rfl⟩)⟩
    · rintro _ ⟨h1, rfl⟩
      have e : placeB kk gs d = false := by
        unfold is4 at h1
        unfold placeB
        split at h1
        · cases h1
        · rename_i h2
          rfl
      rw [e] at k
      exact k _ s12
    · rintro _ ⟨h1, rfl⟩
      obtain ⟨da, ds, di, dp, rfl⟩ : ∃ a s i p, d = .tuple [a, s, i, p] := by
        unfold is4 at h1
        split at h1
        · exact ⟨_, _, _, _, rfl⟩
        · cases h1
      refine go_nx ?_
      obtain ⟨q, ys, rfl, hq, hys⟩ := hy.tupOf
      cases hys with
      | cons ya r1 => cases r1 with
        | cons yb r2 => cases r2 with
          | cons yc r3 => cases r3 with
            | cons yd r4 =>
              cases r4
              rename_i va vs vi vp
              obtain ⟨sd1, sd2⟩ := hd _ _ _ _ rfl
              refine ⟨_, rfl, q, _, rfl, SqT.of hq, rfl, _, _, rfl, _, _, rfl, _, _, rfl, _, _, rfl, rfl, ?_⟩
              refine go_nx ?_
              obtain ⟨a, xs, rfl, ha, hF⟩ := hx
              have lx := hF.len
              have lg : (rowN gs).length = gs.length := List.length_map ..
              have ln : ((xs.length : Nat) : Int) - 1 = (gs.length : Int) - 1 := by omega
              refine a_if (fun b H' => b = !(within da 0 ((gs.length : Int) - 1) && (sidesD.any fun z => PyData.eqv z ds)) ∧ Same H2 H') (fun Q' kQ => ?_) ?_ ?_
              · refine ⟨_, rfl, _, rfl, _, _, rfl, .inr (SqT.of ha), _, _, rfl, rfl, va, da, 0, _, rfl, ya, fun H3 s3 => ⟨_, rfl, ?_⟩⟩
                rw [ln]
                cases hw : within da 0 ((gs.length : Int) - 1) with
                | false => exact iteT (kQ _ _ ⟨by rw [hw, Bool.false_and] <;> rfl, s3⟩)
                | true =>
                  refine iteF ⟨_, rfl, ds, sidesD, (yb.grow s3).dp sd1, .tup (TS.sq _) (.cons (.str _) (.cons (.str _) .nil)), sd2, by decide +kernel, by decide +kernel, _, rfl, kQ _ _ ⟨by rw [hw, Bool.true_and], s3⟩⟩
              · rintro H3 ⟨h3, s3⟩
                have e : placeB kk gs (.tuple [da, ds, di, dp]) = false := by
                  have : (within da 0 ((gs.length : Int) - 1) && (sidesD.any fun z => PyData.eqv z ds)) = false := by
                    cases hz : (within da 0 ((gs.length : Int) - 1) && (sidesD.any fun z => PyData.eqv z ds)) with
                    | false => rfl
                    | true => rw [hz] at h3; cases h3
                  show (within da 0 ((gs.length : Int) - 1) && ((sidesD.any fun z => PyData.eqv z ds) && (within di 0 (manyAt gs da ds - 1) && pathB kk (levOf da) dp))) = false
                  rw [← Bool.and_assoc, this, Bool.false_and]
                rw [e] at k
                exact k _ (s12.trans s3)
              · rintro H3 ⟨h3, s3⟩
                have h3 : (within da 0 ((gs.length : Int) - 1) && (sidesD.any fun z => PyData.eqv z ds)) = true := by
                  cases hz : (within da 0 ((gs.length : Int) - 1) && (sidesD.any fun z => PyData.eqv z ds)) with
                  | true => rfl
                  | false => rw [hz] at h3; cases h3
                rw [Bool.and_eq_true] at h3
                refine go_nx ?_
                obtain ⟨ha3, hs3⟩ := h3
                obtain ⟨lv, rfl⟩ : ∃ lv, da = .int lv := int_of (by unfold within at ha3; rw [Bool.and_eq_true] at ha3; exact ha3.1)
                have hl3 : 0 ≤ lv ∧ lv ≤ (gs.length : Int) - 1 := by
                  unfold within at ha3
                  simp only [Bool.and_eq_true, decide_eq_true_eq] at ha3
                  exact ha3.2
                obtain ⟨n, rfl⟩ : ∃ n : Nat, lv = (n : Int) := ⟨lv.toNat, by omega⟩
                have hn : n < gs.length := by omega
                cases ya
                obtain ⟨g, hg⟩ : ∃ g, gs[n]? = some g := ⟨_, List.getElem?_eq_getElem hn⟩
                obtain ⟨p, hp1, hp2⟩ : ∃ p, xs[n]? = some (.ref p) ∧ H3 p = some (.tup [.int (g.1 : Nat), .int (g.2 : Nat)]) := by
                  obtain ⟨p, f, e, hf, hp⟩ := hF.get n xs[n] (List.getElem?_eq_getElem (by omega))
                  have ef : f = castF g := by
                    have : (rowN gs)[n]? = some f := hf
                    rw [rowN, List.getElem?_map, hg] at this
                    exact (Option.some.inj this).symm
                  subst ef
                  exact ⟨p, by rw [List.getElem?_eq_getElem (by omega), e], s3 _ _ hp⟩
                obtain ⟨sd, j, rfl, hj, hjn, hm⟩ : ∃ (sd : Str) (j : Nat), ds = .str sd ∧ [("left" : Str), "right"][j]? = some sd ∧ (∀ m, m < j → [("left" : Str), "right"][m]? ≠ some sd) ∧ [V.int (g.1 : Nat), .int (g.2 : Nat)][j]? = some (.int (manyAt gs (.int (n : Int)) ds)) := by
                  obtain ⟨m1, m2⟩ := many_at hg
                  rcases sides_any hs3 with rfl | rfl
                  · exact ⟨"left", 0, rfl, rfl, fun m h => absurd h (Nat.not_lt_zero m), by rw [m1]; rfl⟩
                  · refine ⟨"right", 1, rfl, rfl, fun m h => ?_, by rw [m2]; rfl⟩
                    obtain rfl : m = 0 := by omega
                    show some ("left" : Str) ≠ some "right"
                    exact fun z => left_ne (Option.some.inj z)
                cases yb
                refine a_if (fun b H' => b = !within di 0 (manyAt gs (.int (n : Int)) (.str sd) - 1) ∧ Same H3 H') (fun Q' kQ => ?_) ?_ ?_
                · refine ⟨_, rfl, _, rfl, _, rfl, _, _, _, _, rfl, rfl, SqT.of (s3 _ _ ha), atI_nat hp1, ?_⟩
                  refine ⟨.inr (.inl ⟨rfl, TS.kind⟩), _, rfl, aS, ["left", "right"], sd, j, rfl, rfl, TS.sq _, hj, hjn, ?_⟩
                  refine ⟨p, _, _, _, rfl, rfl, SqT.of hp2, atI_nat hm, _, _, rfl, rfl, vi, di, 0, _, rfl, yc.grow s3, fun H4 s4 => ⟨_, rfl, kQ _ _ ⟨rfl, s4⟩⟩⟩
                · rintro H4 ⟨h4, s4⟩
                  have e : placeB kk gs (.tuple [.int (n : Int), .str sd, di, dp]) = false := by
                    have : within di 0 (manyAt gs (.int (n : Int)) (.str sd) - 1) = false := by
                      cases hz : within di 0 (manyAt gs (.int (n : Int)) (.str sd) - 1) with
                      | false => rfl
                      | true => rw [hz] at h4; cases h4
                    show (within (.int (n : Int)) 0 ((gs.length : Int) - 1) && ((sidesD.any fun z => PyData.eqv z (.str sd)) && (within di 0 (manyAt gs (.int (n : Int)) (.str sd) - 1) && pathB kk (n : Int) dp))) = false
                    rw [this, Bool.false_and, Bool.and_false, Bool.and_false]
                  rw [e] at k
                  exact k _ (s12.trans (s3.trans s4))
                · rintro H4 ⟨h4, s4⟩
                  have h4 : within di 0 (manyAt gs (.int (n : Int)) (.str sd) - 1) = true := by
                    cases hz : within di 0 (manyAt gs (.int (n : Int)) (.str sd) - 1) with
                    | true => rfl
                    | false => rw [hz] at h4; cases h4
                  have e : placeB kk gs (.tuple [.int (n : Int), .str sd, di, dp]) = pathB kk (n : Int) dp := by
                    show (within (.int (n : Int)) 0 ((gs.length : Int) - 1) && ((sidesD.any fun z => PyData.eqv z (.str sd)) && (within di 0 (manyAt gs (.int (n : Int)) (.str sd) - 1) && pathB kk (n : Int) dp))) = _
                    rw [ha3, hs3, h4, Bool.true_and, Bool.true_and, Bool.true_and]
                  rw [e] at k
                  replace yd := yd.grow (s3.trans s4)
                  have s14 := s12.trans (s3.trans s4)
                  refine go_nx ?_
                  cases yd with
                  | tup g1 g2 =>
                    rename_i pa ps pds
                    have hl := g2.len
                    refine ⟨_, rfl, _, _, _, _, true, rfl, .ty _, Dx.ty (.tup g1 g2), kit_ty (by show kitB "tuple" _ = _; decide +kernel), true, rfl, iteT ?_⟩
                    refine ⟨_, rfl, _, _, rfl, .inr (SqT.of g1), _, rfl, rfl, _, rfl, ite2 (fun q1 => ?_) (fun q1 => ?_)⟩
                    · have el : (ps.length : Int) = (n : Int) := V.int.inj (of_decide_eq_true q1)
                      have few : ps.length ≤ 5 := by
                        have := hsm.1
                        omega
                      refine ⟨_, rfl, pa, rfl, ⟨_, SqT.of g1⟩, fun Dl nD => ?_⟩
                      refine lc_tup (K := K) (a := pa) (xs := ps) (fun i H' => Same H4 H' ∧ H' Dl = some (.lst (((pds.take i).map fun d => within d 0 ((kk : Int) - 1)).map V.bl))) ?_ ?_ ?_ ?_
                      · exact ⟨same_new nD, upd_same⟩
                      · rintro i H' _ ⟨s5, _⟩
                        exact SqT.of (s5 _ _ g1)
                      · rintro i y H5 hi ⟨s5, hD⟩
                        obtain ⟨d, hd, hy⟩ := g2.get i y hi
                        refine ⟨rfl, ?_⟩
                        refine ⟨_, rfl, _, rfl, _, _, rfl, rfl, y, d, 0, _, rfl, hy.grow s5, fun H6 s6 => ?_⟩
                        refine ⟨_, s6 _ _ hD, ?_, Same.put (s5.trans s6) nD, ?_⟩
                        · rw [List.length_map, List.length_map, List.length_take]
                          exact small1000 (by omega)
                        · rw [upd_same, List.take_add_one, hd, List.map_append, List.map_append]
                          rfl
                      · rintro H5 ⟨s5, hD⟩
                        refine ⟨Dl, _, rfl, SqL.of hD, ?_⟩
                        have e2 := k H5 (s14.trans s5)
                        have ef : pathB kk (n : Int) (.tuple pds) = ((pds.take ps.length).map fun d => within d 0 ((kk : Int) - 1)).all id := by
                          rw [hl, List.take_length]
                          simp only [pathB]
                          rw [decide_eq_true (by omega), Bool.true_and, List.all_map]
                          rfl
                        rw [ef] at e2
                        exact e2
                    · have nf : pathB kk (n : Int) (.tuple pds) = false := by
                        simp only [pathB]
                        rw [decide_eq_false (fun z => q1 (decide_eq_true (congrArg V.int (by omega)))), Bool.false_and]
                      rw [nf] at k
                      exact k _ s14
                  | int i => exact ⟨_, rfl, _, _, _, _, false, rfl, .ty _, Dx.ty (.int i), kit_ty (by show kitB "int" _ = _; decide +kernel), false, rfl, iteF (k _ s14)⟩
                  | bl b => exact ⟨_, rfl, _, _, _, _, false, rfl, .ty _, Dx.ty (.bl b), kit_ty (by show kitB "bool" _ = _; decide +kernel), false, rfl, iteF (k _ s14)⟩
                  | non => exact ⟨_, rfl, _, _, _, _, false, rfl, .ty _, Dx.ty .non, kit_ty (by decide +kernel), false, rfl, iteF (k _ s14)⟩
                  | str x => exact ⟨_, rfl, _, _, _, _, false, rfl, .ty _, Dx.ty (.str x), kit_ty (by show kitB "str" _ = _; decide +kernel), false, rfl, iteF (k _ s14)⟩
                  | lst g1 g2 => exact ⟨_, rfl, _, _, _, _, false, rfl, .ty _, Dx.ty (.lst g1 g2), kit_ty (by show kitB "list" _ = _; decide +kernel), false, rfl, iteF (k _ s14)⟩
                  | dct g1 g2 => exact ⟨_, rfl, _, _, _, _, false, rfl, .ty _, Dx.ty (.dct g1 g2), kit_ty (by show kitB "dict" _ = _; decide +kernel), false, rfl, iteF (k _ s14)⟩
end
end G

set_option Elab.async false
set_option linter.all false
set_option maxRecDepth 100000
set_option maxHeartbeats 4000000
namespace G
open PySem PySem.Spec PyProof.Rows L2
/-! ## sums over rows -/
theorem sideL_snoc (k : Int) (f : Int × Int) : ∀ xs : List (Int × Int), sideL k (xs ++ [f]) = sideL k xs + k ^ xs.length * f.1
  | [] => by simp [sideL]
  | x :: r => by
    have ih := sideL_snoc k f r
    simp only [sideL, List.cons_append, List.foldr_cons, List.length_cons] at ih ⊢
    rw [ih, Int.add_mul, Int.pow_succ, Int.mul_assoc, Int.mul_comm f.1 k, ← Int.mul_assoc]
    omega
theorem sideR_snoc (k : Int) (f : Int × Int) : ∀ xs : List (Int × Int), sideR k (xs ++ [f]) = sideR k xs + k ^ xs.length * f.2
  | [] => by simp [sideR]
  | x :: r => by
    have ih := sideR_snoc k f r
    simp only [sideR, List.cons_append, List.foldr_cons, List.length_cons] at ih ⊢
    rw [ih, Int.add_mul, Int.pow_succ, Int.mul_assoc, Int.mul_comm f.2 k, ← Int.mul_assoc]
    omega
theorem side_bound {k : Int} (hk : k = 2 ∨ k = 3) : ∀ {fs : List (Int × Int)}, (∀ f ∈ fs, Side 7 f) → 0 ≤ sideL k fs ∧ sideL k fs + 7 ≤ 7 * 4 ^ fs.length ∧ 0 ≤ sideR k fs ∧ sideR k fs + 7 ≤ 7 * 4 ^ fs.length
  | [], _ => by simp [sideL, sideR]
  | f :: r, h => by
    obtain ⟨a1, a2, a3, a4⟩ := side_bound hk (fs := r) fun g hg => h g (List.mem_cons_of_mem _ hg)
    obtain ⟨b1, b2, b3, b4⟩ := h f List.mem_cons_self
    simp only [sideL, sideR, List.foldr_cons, List.length_cons] at a1 a2 a3 a4 ⊢
    have e : (4 : Int) ^ (r.length + 1) = 4 ^ r.length * 4 := Int.pow_succ ..
    rw [e]
    rcases hk with rfl | rfl <;> omega
theorem side3 {fs : List (Int × Int)} (h : ∀ f ∈ fs, Side 3 f) : ∀ f ∈ fs, Side 7 f := fun f hf => by
  obtain ⟨a, b, c, d⟩ := h f hf
  exact ⟨a, by omega, c, by omega⟩
theorem pow4 {n : Nat} (h : n ≤ 5) : (4 : Int) ^ n ≤ 1024 := by
  match n, h with
  | 0, _ => decide
  | 1, _ => decide
  | 2, _ => decide
  | 3, _ => decide
  | 4, _ => decide
  | 5, _ => decide
/-! ## lengths, places and digits: pure -/
theorem dig_front {K : Nat} : ∀ n q, dig K (n + 1) q = (q / K ^ n % K) :: dig K n q
  | 0, q => by simp [dig]
  | n + 1, q => by
    have e : q / K ^ (n + 1) = q / K / K ^ n := by rw [Nat.pow_succ, Nat.mul_comm, Nat.div_div_eq_div_mul]
    rw [dig, dig_front n (q / K), e, List.cons_append]
    rfl
theorem total_lefts (k : Nat) : ∀ (gs : List (Nat × Nat)) (i : Nat), ((total k (lefts i gs) : Nat) : Int) = ((k ^ i : Nat) : Int) * sideL k (rowN gs) ∧ ((total k (rights i gs) : Nat) : Int) = ((k ^ i : Nat) : Int) * sideR k (rowN gs)
  | [], i => by simp [lefts, rights, total, rowN, sideL, sideR]
  | g :: r, i => by
    obtain ⟨h1, h2⟩ := total_lefts k r (i + 1)
    have e1 : total k (lefts i (g :: r)) = g.1 * k ^ i + total k (lefts (i + 1) r) := rfl
    have e2 : total k (rights i (g :: r)) = g.2 * k ^ i + total k (rights (i + 1) r) := rfl
    have e3 : sideL k (rowN (g :: r)) = sideL k (rowN r) * k + (g.1 : Int) := rfl
    have e4 : sideR k (rowN (g :: r)) = sideR k (rowN r) * k + (g.2 : Int) := rfl
    have e5 : ((k ^ (i + 1) : Nat) : Int) = ((k ^ i : Nat) : Int) * (k : Int) := by rw [Nat.pow_succ]; exact Int.natCast_mul ..
    rw [e1, e2, e3, e4, Int.natCast_add, Int.natCast_add, h1, h2, e5, Int.natCast_mul, Int.natCast_mul, Int.mul_add, Int.mul_add, Int.mul_assoc, Int.mul_assoc, Int.mul_comm (sideL k (rowN r)), Int.mul_comm (sideR k (rowN r)), Int.mul_comm (g.1 : Int), Int.mul_comm (g.2 : Int)]
    omega
theorem total_app (K : Nat) (xs ys : List Blk) : total K (xs ++ ys) = total K xs + total K ys := by simp [total]
theorem total_rev (K : Nat) (xs : List Blk) : total K xs.reverse = total K xs := by simp [total]
theorem places_len (k : Nat) (gs : List (Nat × Nat)) : ((places k gs).length : Int) = sideL k (rowN gs) + sideR k (rowN gs) := by
  obtain ⟨h1, h2⟩ := total_lefts k gs 0
  unfold places blocks
  rw [placesB_len, total_app, total_rev, Int.natCast_add, h1, h2]
  simp
theorem within_int {a lo hi : Int} (h1 : lo ≤ a) (h2 : a ≤ hi) (h3 : -1000000 ≤ a) (h4 : a ≤ 1000000) : within (.int a) lo hi = true := by
  have e1 : intB (.int a) = true := by
    show smallB a = true
    unfold smallB BIG
    rw [decide_eq_true (by omega), decide_eq_true (by omega)]
    rfl
  unfold within
  rw [e1, Bool.true_and]
  show (decide (lo ≤ a) && decide (a ≤ hi)) = true
  rw [decide_eq_true h1, decide_eq_true h2]
  rfl
theorem within_pred {n m : Nat} (h : n < m) (h3 : m ≤ 100000) : within (.int (n : Nat)) 0 ((m : Int) - 1) = true := within_int (by omega) (by omega) (by omega) (by omega)
theorem placeB_eq (k : Nat) (gs : List (Nat × Nat)) (a s i p : PyData) : placeB k gs (.tuple [a, s, i, p]) = (within a 0 ((gs.length : Int) - 1) && ((sidesD.any fun z => PyData.eqv z s) && (within i 0 (manyAt gs a s - 1) && pathB k (levOf a) p))) := rfl
theorem pathB_ints {k : Nat} (hk : k ≤ 100) (lv : Nat) (cs : List Nat) (h1 : cs.length = lv) (h2 : ∀ c ∈ cs, c < k) : pathB k (lv : Nat) (.tuple (cs.map fun c => .int (c : Nat))) = true := by
  have e : pathB k (lv : Nat) (.tuple (cs.map fun c => .int (c : Nat))) = (decide (((cs.map fun c => PyData.int (c : Nat)).length : Int) = (lv : Int)) && (cs.map fun c => PyData.int (c : Nat)).all fun d => within d 0 ((k : Int) - 1)) := rfl
  rw [e, List.length_map, decide_eq_true (by omega), Bool.true_and, List.all_eq_true]
  intro d hd
  obtain ⟨c, hc, rfl⟩ := List.mem_map.mp hd
  have lt := h2 c hc
  exact within_pred lt (by omega)
/-- all that the program needs of the place with a number -/
theorem place_facts {k : Nat} (hk : 0 < k) {gs : List (Nat × Nat)} {n : Nat} {p : Plc} (h : (places k gs)[n]? = some p) :
    ∃ s : Spn, (∃ r, (spansB k 0 (blocks gs)).filter (fun t => decide (t.beg ≤ n) && decide (n < t.fin)) = s :: r) ∧ (∃ r, (spansB k 0 (blocks gs)).filter (fun t => decide (t.lev = p.lev ∧ t.side = p.side)) = s :: r) ∧
      s.lev = p.lev ∧ s.side = p.side ∧ s.beg ≤ n ∧ n < s.fin ∧ p.idx = (n - s.beg) / k ^ p.lev ∧ p.path = dig k p.lev (n - s.beg) ∧
      ∃ g, gs[p.lev]? = some g ∧ ((p.side = "left" ∧ p.idx < g.1) ∨ (p.side = "right" ∧ p.idx < g.2)) := by
  obtain ⟨s, b, hb, hs, e1, e2, h1, h2, h3, rfl⟩ := place_in (K := k) (blocks gs) 0 n p h
  rw [Nat.zero_add] at h1 h2 h3
  refine ⟨s, filter_one hs (by rw [decide_eq_true h1, decide_eq_true h2]; rfl) (fun t ht q => ?_), filter_one hs (decide_eq_true ⟨e1, e2⟩) (fun t ht q => ?_), e1, e2, h1, h2, ?_, ?_, ?_⟩
  · rw [Bool.and_eq_true, decide_eq_true_eq, decide_eq_true_eq] at q
    exact (span_one _ _ n s t hs ht h1 h2 q.1 q.2).symm
  · obtain ⟨q1, q2⟩ := of_decide_eq_true q
    exact span_key _ _ s t (blocks_apart gs) hs ht (q1.trans e1.symm) (q2.trans e2.symm)
  · rw [Nat.zero_add]
    rfl
  · rw [Nat.zero_add]
    rfl
  · obtain ⟨g, hg, hc⟩ := blocks_mem hb
    refine ⟨g, hg, ?_⟩
    have lt : (n - s.beg) / k ^ b.lev < b.many := by
      refine Nat.div_lt_of_lt_mul ?_
      rw [Nat.mul_comm]
      exact h3
    rw [Nat.zero_add]
    rcases hc with ⟨c1, c2⟩ | ⟨c1, c2⟩
    · exact .inl ⟨c1, by rw [← c2]; exact lt⟩
    · exact .inr ⟨c1, by rw [← c2]; exact lt⟩
theorem place_true {k : Nat} (hk : k = 2 ∨ k = 3) {gs : List (Nat × Nat)} (hsm : Small gs) {n : Nat} {p : Plc} (h : (places k gs)[n]? = some p) : placeB k gs (plcD p) = true := by
  obtain ⟨s, _, _, e1, e2, h1, h2, h3, h4, g, hg, hc⟩ := place_facts (by omega) h
  have hl : p.lev < gs.length := (List.getElem?_eq_some_iff.mp hg).1
  obtain ⟨l5, l7⟩ := hsm
  obtain ⟨g7, g8⟩ := l7 g (List.mem_of_getElem? hg)
  obtain ⟨m1, m2⟩ := many_at hg
  have hp := pathB_ints (k := k) (by omega) p.lev p.path (by rw [h4, dig_len]) (by rw [h4]; exact dig_lt (by omega) _ _)
  have hw := within_pred hl (by omega)
  have e : placeB k gs (plcD p) = _ := placeB_eq k gs (.int (p.lev : Nat)) (.str p.side) (.int (p.idx : Nat)) (.tuple (p.path.map fun c => .int (c : Nat)))
  rw [e, hw, Bool.true_and]
  have el : levOf (.int (p.lev : Nat)) = (p.lev : Nat) := rfl
  rw [el, hp, Bool.and_true]
  rcases hc with ⟨c1, c2⟩ | ⟨c1, c2⟩
  · rw [c1, m1, within_pred c2 (by omega), Bool.and_true]
    decide +kernel
  · rw [c1, m2, within_pred c2 (by omega), Bool.and_true]
    decide +kernel
def spCheckNum : Sp := fun vs H Q _ => ∃ (k n : Nat) (x : V) (gs : List (Nat × Nat)), vs = [.int (k : Nat), x, .int (n : Nat)] ∧ (k = 2 ∨ k = 3) ∧ RowAt H x (rowN gs) ∧ Small gs ∧ rowB (rowD (rowN gs)) = true ∧ n < (places k gs).length ∧ ∀ H', Same H H' → Q .non H'
def spPlaceAt : Sp := fun vs H Q _ => ∃ (k n : Nat) (x : V) (gs : List (Nat × Nat)) (p : Plc), vs = [.int (k : Nat), x, .int (n : Nat)] ∧ (k = 2 ∨ k = 3) ∧ RowAt H x (rowN gs) ∧ Small gs ∧ (places k gs)[n]? = some p ∧ ∀ v H', Same H H' → Tx H' v (plcD p) → Q v H'
def spPlaceOf : Sp := fun vs H Q _ => ∃ (k n : Nat) (x : V) (gs : List (Nat × Nat)) (p : Plc), vs = [.int (k : Nat), x, .int (n : Nat)] ∧ (k = 2 ∨ k = 3) ∧ RowAt H x (rowN gs) ∧ Small gs ∧ rowB (rowD (rowN gs)) = true ∧ (places k gs)[n]? = some p ∧ ∀ v H', Same H H' → Tx H' v (plcD p) → Q v H'
def spSpans : Sp := fun vs H Q _ => ∃ (k : Nat) (x : V) (gs : List (Nat × Nat)), vs = [.int (k : Nat), x] ∧ (k = 2 ∨ k = 3) ∧ RowAt H x (rowN gs) ∧ Small gs ∧ rowB (rowD (rowN gs)) = true ∧ ∀ v H', Same H H' → Tx H' v (.tuple ((spansB k 0 (blocks gs)).map spnD)) → Q v H'
/-- the total is small -/
theorem places_few {k : Nat} (hk : k = 2 ∨ k = 3) {gs : List (Nat × Nat)} (h : Small gs) : (places k gs).length ≤ 14336 := by
  have hs : ∀ f ∈ rowN gs, Side 7 f := fun f hf => by
    obtain ⟨g, hg, rfl⟩ := List.mem_map.mp hf
    obtain ⟨a, b⟩ := h.2 g hg
    exact ⟨by simp only [castF]; omega, by simp only [castF]; omega, by simp only [castF]; omega, by simp only [castF]; omega⟩
  obtain ⟨b1, b2, b3, b4⟩ := side_bound (k := (k : Int)) (by omega) hs
  have l : (rowN gs).length ≤ 5 := by
    rw [rowN, List.length_map]
    exact h.1
  have p4 := pow4 l
  have := places_len k gs
  omega
section
variable {P : Program} {w : World} {K : PySem.W.Frag} {mg : Str → Option Value} {base : Heap}
theorem c_check_number (T : Txt K mg) (C_is_within : CalG P w K mg base 2 "is_within" ["value", "least", "greatest"] spWithin) (C_length_of : CalG P w K mg base 9 "length_of" ["arity", "row"] spLength)
    (D : DefAt K mg "_check_number" s__check_number ["arity", "row", "number"]) : CalG P w K mg base 10 "_check_number" ["arity", "row", "number"] spCheckNum := by
  refine calOk D sc__check_number (fun xs H Q E h => ?_) (fun f cdv A out s H xs Q E hgd hr h => ?_)
  · obtain ⟨k, n, x, gs, rfl, _⟩ := h
    rfl
  · obtain ⟨kk, n, x, gs, rfl, hk, hx, hsm, hb, hn, k⟩ := h
    have nd := sc__check_number.nd
    refine ⟨_, (pss_one (ps_if (pt_not (pt_val (pe_k C_is_within hgd hr (by decide) rfl (pa_cons (pv 2) (pa_cons pe_int (pa_cons (pe_op op_sub (pe_k C_length_of hgd hr (by decide) rfl (pa_cons (pv 0) (pa_cons (pv 1) pa_nil))) pe_int) pa_nil)))))) (pss_one (ps_never)) pss_nil)), ?_⟩
    have few := places_few hk hsm
    refine a_if1 (fun b H' => b = false ∧ Same H H') (fun Q' kQ => ?_) (fun H' h => nomatch h.1) (fun H' h => k H' h.2)
    refine ⟨_, rfl, _, rfl, _, rfl, (kk : Nat), x, rowN gs, rfl, by omega, hx.dx0, hb, fun H1 s1 => ?_⟩
    refine ⟨_, _, rfl, rfl, _, .int (n : Nat), 0, _, rfl, .int _, fun H2 s2 => ⟨true, congrArg V.bl ?_, kQ _ _ ⟨rfl, s1.trans s2⟩⟩⟩
    rw [← places_len]
    exact within_pred hn (by omega)
theorem c_place_at (T : Txt K mg) (C__spans : CalG P w K mg base 1 "_spans" ["arity", "row"] spSpansB) (D : DefAt K mg "_place_at" s__place_at ["arity", "row", "number"]) : CalG P w K mg base 2 "_place_at" ["arity", "row", "number"] spPlaceAt := by
  refine calOk D sc__place_at (fun xs H Q E h => ?_) (fun f cdv A out s H xs Q E hgd hr h => ?_)
  · obtain ⟨k, n, x, gs, p, rfl, _⟩ := h
    rfl
  · obtain ⟨kk, n, x, gs, p, rfl, hk, hx, hsm, hp, k⟩ := h
    have nd := sc__place_at.nd
    refine ⟨_, (pss_cons (ps_asg (pe_ix ix_list (pe_lc (own := [("span", 9)]) (g := gName 9) (by rfl) nd (pi_tup (pe_k C__spans hgd hr (by decide) rfl (pa_cons (pv 0) (pa_cons (pv 1) pa_nil)))) (blkOk_by (own := [("span", 9)]) (N := N__place_at) (sc := defScope s__place_at) (by decide +kernel)) (fun _ _ _ _ _ => pg_name (i := 9) nd rfl (.inl rfl)) (fun _ _ _ _ _ => pts_one (pt_chain op_le op_lt (pe_ix (show IxR _ (rIxT K) from ix_tup) (pv 9) pe_int (fun _ _ => rfl)) (pv 2) (pe_ix (show IxR _ (rIxT K) from ix_tup) (pv 9) pe_int (fun _ _ => rfl)))) (fun _ _ _ _ _ => pv 9)) pe_int (fun _ _ => rfl)) (pg_tup (by rfl) (pgs_cons (pg_name (i := 3) nd rfl (.inl rfl)) (pgs_cons (pg_name (i := 4) nd rfl (.inl rfl)) (pgs_cons (pg_name (i := 5) nd rfl (.inl rfl)) (pgs_cons (pg_name (i := 6) nd rfl (.inl rfl)) pgs_nil))))))
      (pss_cons (ps_set (i := 7) nd rfl (.inl rfl) (pe_op op_sub (pv 2) (pv 5)))
      (pss_cons (ps_set (i := 8) nd rfl (.inl rfl) (pe_lst pa_nil))
      (pss_cons (ps_for PassesOwn.never rfl (pi_range1 rfl T.range (pa_cons (pv 3) pa_nil)) (pg_name (i := 6) nd rfl (.inl rfl)) (pss_cons (ps_expr (pe_bm PySem.F.plainAttrs_list PySem.F.slot_list_append PySem.F.type_list_append mt_append (pv 8) (pa_cons (pe_op op_mod (pv 7) (pv 0)) pa_nil)))
        (pss_one (ps_set (i := 7) nd rfl (.inl rfl) (pe_op op_fdivW (pv 7) (pv 0))))))
      (pss_one (ps_ret (pe_tup (pa_cons (pv 3) (pa_cons (pv 4) (pa_cons (pv 7) (pa_cons (pe_callTy call_tuple_of (by rfl) T.tuple (by decide +kernel) (pa_cons (pe_revL (pv 8)) pa_nil)) pa_nil))))))))))), ?_⟩
    obtain ⟨sp, ⟨rr, hf⟩, _, e1, e2, h1, h2, h3, h4, g, hg, _⟩ := place_facts (by omega) hp
    have hl : p.lev < gs.length := (List.getElem?_eq_some_iff.mp hg).1
    have l5 := hsm.1
    have nlen : n < (places kk gs).length := (List.getElem?_eq_some_iff.mp hp).1
    have few := places_few hk hsm
    refine ⟨_, rfl, _, rfl, kk, x, gs, rfl, hk, hx, hsm, fun v H1 s1 hv => ?_⟩
    obtain ⟨a, xs, rfl, ha, hxs⟩ := hv.tupOf
    have lxs := hxs.len
    rw [List.length_map] at lxs
    have ls := spansB_len kk (blocks gs) 0
    have lb : (blocks gs).length ≤ 10 := by
      unfold blocks
      rw [List.length_append, List.length_reverse, (lefts_len _ _).1, (lefts_len _ _).2]
      omega
    refine ⟨a, rfl, ⟨_, SqT.of ha⟩, fun Dl nD => ?_⟩
    refine lc_tup (K := K) (a := a) (xs := xs) (fun i H' => ∃ ys, Same H1 H' ∧ H' Dl = some (.lst ys) ∧ TxAll H' ys ((((spansB kk 0 (blocks gs)).take i).filter fun t => decide (t.beg ≤ n) && decide (n < t.fin)).map spnD)) ?_ ?_ ?_ ?_
    · exact ⟨[], same_new nD, upd_same, .nil⟩
    · rintro i H' _ ⟨_, s2, _⟩
      exact SqT.of (s2 _ _ ha)
    · rintro i y H2 hi ⟨ys, s2, hD, hY⟩
      obtain ⟨d, hd, hy⟩ := hxs.get i y hi
      rw [List.getElem?_map] at hd
      obtain ⟨t, ht, rfl⟩ := Option.map_eq_some_iff.mp hd
      replace hy := hy.grow s2
      obtain ⟨q, zs, rfl, hq, hz⟩ := hy.tupOf
      have ez : zs = [.int (t.lev : Nat), .str t.side, .int (t.beg : Nat), .int (t.fin : Nat)] := by
        cases hz with
        | cons z1 r1 => cases r1 with
          | cons z2 r2 => cases r2 with
            | cons z3 r3 => cases r3 with
              | cons z4 r4 =>
                cases r4
                cases z1
                cases z2
                cases z3
                cases z4
                rfl
      subst ez
      have ly : ys.length ≤ 10 := by
        have h1 := hY.len
        rw [List.length_map] at h1
        have h2 := List.length_filter_le (fun t : Spn => decide (t.beg ≤ n) && decide (n < t.fin)) ((spansB kk 0 (blocks gs)).take i)
        rw [List.length_take] at h2
        omega
      refine ⟨rfl, ?_⟩
      have tk := take_one ht
      have step : ((((spansB kk 0 (blocks gs)).take (i + 1)).filter fun t => decide (t.beg ≤ n) && decide (n < t.fin)).map spnD) = ((((spansB kk 0 (blocks gs)).take i).filter fun t => decide (t.beg ≤ n) && decide (n < t.fin)).map spnD) ++ (if (decide (t.beg ≤ n) && decide (n < t.fin)) = true then [spnD t] else []) := by
        rw [tk, List.filter_append, List.map_append]
        congr 1
        by_cases q : (decide (t.beg ≤ n) && decide (n < t.fin)) = true
        · rw [if_pos q]
          simp [List.filter_cons, q]
        · rw [if_neg q]
          simp only [List.filter_cons, q, if_false, List.filter_nil, Bool.false_eq_true]
          rfl
      rw [step]
      have no : (decide (t.beg ≤ n) && decide (n < t.fin)) = false → ∃ ys, Same H1 H2 ∧ H2 Dl = some (.lst ys) ∧ TxAll H2 ys (((((spansB kk 0 (blocks gs)).take i).filter fun t => decide (t.beg ≤ n) && decide (n < t.fin)).map spnD) ++ (if (decide (t.beg ≤ n) && decide (n < t.fin)) = true then [spnD t] else [])) := fun e => by
        rw [e, if_neg Bool.false_ne_true, List.append_nil]
        exact ⟨ys, s2, hD, hY⟩
      refine ⟨_, rfl, _, _, _, _, rfl, rfl, SqT.of hq, atI_nat (j := 2) rfl, _, rfl, _, _, rfl, rfl, ?_⟩
      by_cases q1 : t.beg ≤ n
      · refine ⟨true, congrArg V.bl (decide_eq_true (by omega)), iteT ⟨_, rfl, _, _, _, _, rfl, rfl, SqT.of hq, atI_nat (j := 3) rfl, _, _, rfl, rfl, ?_⟩⟩
        by_cases q2 : n < t.fin
        · refine ⟨true, congrArg V.bl (decide_eq_true (by omega)), iteT ⟨_, rfl, ys, hD, small1000 (by omega), _, same_put s2 nD, upd_same, ?_⟩⟩
          rw [decide_eq_true q1, decide_eq_true q2, Bool.and_self, if_pos rfl]
          have kp : TupK H2 (upd H2 Dl (.lst (ys ++ [.ref q]))) := tupk_put hD
          exact (hY.keep kp).append (.cons (hy.keep kp) .nil)
        · exact ⟨false, congrArg V.bl (decide_eq_false (by omega)), iteF (no (by rw [decide_eq_false q2, Bool.and_false]))⟩
      · exact ⟨false, congrArg V.bl (decide_eq_false (by omega)), iteF ⟨false, rfl, iteF (no (by rw [decide_eq_false q1, Bool.false_and]))⟩⟩
    · rintro H2 ⟨ys, s2, hD, hY⟩
      rw [lxs, List.take_length, hf, List.map_cons] at hY
      obtain ⟨y0, hy0, ty⟩ := hY.getD 0 _ rfl
      obtain ⟨q, zs, rfl, hq, hz⟩ := ty.tupOf
      have ez : zs = [.int (sp.lev : Nat), .str sp.side, .int (sp.beg : Nat), .int (sp.fin : Nat)] := by
        cases hz with
        | cons z1 r1 => cases r1 with
          | cons z2 r2 => cases r2 with
            | cons z3 r3 => cases r3 with
              | cons z4 r4 =>
                cases r4
                cases z1
                cases z2
                cases z3
                cases z4
                rfl
      subst ez
      refine ⟨_, _, _, _, rfl, rfl, SqL.of hD, atI_nat (j := 0) hy0, q, _, rfl, SqT.of hq, rfl, _, _, rfl, _, _, rfl, _, _, rfl, _, _, rfl, rfl, ?_⟩
      refine go_nx ?_
      have eb : ((n : Int) - (sp.beg : Int)) = ((n - sp.beg : Nat) : Int) := by omega
      refine ⟨_, rfl, _, rfl, _, _, rfl, rfl, ?_⟩
      refine ⟨(by show 0 ≤ sizeLine; decide), fun q2 n2 => ?_⟩
      have s3 := same_new (o := .lst []) n2
      have nq2 : H q2 = none := (s1.trans s2).free n2
      refine ⟨_, rfl, _, rfl, by omega, by omega, ?_⟩
      have lv0 : ((sp.lev : Nat) : Int).toNat = sp.lev := Int.toNat_natCast _
      rw [lv0]
      refine for_range (fun j σ H' => ∃ (v6 v9 : Option V) (ys : List V), σ = [some (.int (kk : Nat)), some x, some (.int (n : Nat)), some (.int (sp.lev : Nat)), some (.str sp.side), some (.int (sp.beg : Nat)), v6, some (.int (((n - sp.beg) / kk ^ j : Nat) : Int)), some (.ref q2), v9] ∧ Same H H' ∧
        H' q2 = some (.lst ys) ∧ TxAll H' ys ((dig kk j (n - sp.beg)).reverse.map fun c => .int (c : Nat))) ?_ ?_ ?_
      · refine ⟨some (.int (sp.fin : Nat)), none, [], ?_, (s1.trans s2).trans s3, upd_same, .nil⟩
        rw [Nat.pow_zero, Nat.div_one, ← eb]
        rfl
      · rintro j σ H3 hj ⟨v6, v9, zs, rfl, s4, hq2, hZ⟩
        have lz : zs.length ≤ 5 := by
          rw [hZ.len, List.length_map, List.length_reverse, dig_len]
          omega
        refine ⟨_, rfl, .inl ⟨rfl, _, SqL.of hq2⟩, _, rfl, _, rfl, _, _, rfl, rfl, (by show (0 : Int) < (kk : Int); omega), q2, _, _, rfl, rfl, hq2, small1000 (by omega), ?_⟩
        have kp : TupK H3 (upd H3 q2 (.lst (zs ++ [.int (((n - sp.beg) / kk ^ j : Nat) % (kk : Int))]))) := tupk_put hq2
        refine ⟨_, rfl, _, rfl, _, _, rfl, rfl, ⟨by omega, by show Nat.log2 (kk : Int).natAbs < 9000; rw [Int.natAbs_natCast]; exact Nat.lt_of_le_of_lt (Nat.log2_le_self _) (by omega)⟩, ?_⟩
        refine ⟨some (.int (0 + (j : Nat))), v9, zs ++ [.int (((n - sp.beg) / kk ^ j : Nat) % (kk : Int))], ?_, same_put s4 nq2, upd_same, ?_⟩
        · have e : (((n - sp.beg) / kk ^ (j + 1) : Nat) : Int) = (((n - sp.beg) / kk ^ j : Nat) : Int) / (kk : Int) := by
            rw [Nat.pow_succ, ← Nat.div_div_eq_div_mul]
            rfl
          rw [e]
          rfl
        · rw [dig_front, List.reverse_cons, List.map_append]
          exact (hZ.keep kp).append (.cons (.int _) .nil)
      · rintro σ H3 ⟨v6, v9, zs, rfl, s4, hq2, hZ⟩
        refine ⟨_, rfl, _, rfl, _, rfl, _, rfl, q2, zs, rfl, SqL.of hq2, fun q3 n3 => ?_⟩
        have s5 := same_new (o := .lst zs.reverse) n3
        refine ⟨q3, zs.reverse, rfl, .inl ⟨SqL.of upd_same, fun q4 n4 => ?_⟩⟩
        have s6 := same_new (o := .tup zs.reverse) n4
        refine ⟨(by show 4 ≤ sizeLine; decide), fun q5 n5 => ?_⟩
        have s7 := same_new (o := .tup [.int (sp.lev : Nat), .str sp.side, .int (((n - sp.beg) / kk ^ sp.lev : Nat) : Int), .ref q4]) n5
        refine k _ _ (((s4.trans s5).trans s6).trans s7) ?_
        have hR := (hZ.grow ((s5.trans s6).trans s7)).reverse
        rw [← List.map_reverse, List.reverse_reverse] at hR
        unfold plcD
        rw [← e1, ← e2, h3, h4, ← e1]
        exact .tup upd_same (.cons (.int _) (.cons (.str _) (.cons (.int _) (.cons (.tup (s7 _ _ upd_same) hR) .nil))))
end
end G

set_option Elab.async false
set_option linter.all false
set_option maxRecDepth 100000
set_option maxHeartbeats 4000000
namespace G
open PySem PySem.Spec PyProof.Rows L2
theorem TxAll.take {H : Hp} : ∀ {xs : List V} {ds : List PyData} (n : Nat), TxAll H xs ds → TxAll H (xs.take n) (ds.take n)
  | _, _, 0, _ => .nil
  | _, _, _ + 1, .nil => .nil
  | _, _, n + 1, .cons a b => .cons a (TxAll.take n b)
theorem TxAll.drop {H : Hp} : ∀ {xs : List V} {ds : List PyData} (n : Nat), TxAll H xs ds → TxAll H (xs.drop n) (ds.drop n)
  | _, _, 0, h => h
  | _, _, _ + 1, .nil => .nil
  | _, _, n + 1, .cons a b => TxAll.drop n b
def rSlT : V → Option Int → Option Int → Hp → VK → Prop := fun x lo hi H Q => ∃ ds : List PyData, Tx H x (.tuple ds) ∧ ∀ v H', Same H H' → Tx H' v (.tuple (cutD ds lo hi)) → Q v H'
theorem sl_tupT {X : Cx} : SlR X rSlT := by
  intro pins s σ H x v vl vu lo hi sl Q I rx hs pl pu h
  obtain ⟨ds, hx, k⟩ := h
  obtain ⟨a, xs, rfl, ha, hxs⟩ := hx.tupOf
  have l1 := hxs.len
  refine sl_tupA pins s σ H (.ref a) v vl vu lo hi sl Q I rx hs pl pu ⟨a, xs, rfl, SqT.of ha, fun e => ?_, fun _ p np => ?_⟩
  · refine k _ _ (Same.refl _) ?_
    have e2 : cutD ds lo hi = ds := by
      unfold cutD
      rw [← l1, e.1, e.2]
      simp [l1]
    rw [e2]
    exact hx
  · have s1 := same_new (o := .tup (cutV xs lo hi)) np
    refine k _ _ s1 (.tup upd_same ?_)
    have e2 : cutV xs lo hi = (xs.drop (HT.sIx ds.length 0 lo)).take (HT.sIx ds.length ds.length hi - HT.sIx ds.length 0 lo) := by
      unfold cutV
      rw [l1]
    rw [e2]
    exact ((hxs.drop _).take _).grow (e2 ▸ s1)
theorem cut2 (a b c d : PyData) : cutD [a, b, c, d] none (some 2) = [a, b] := by
  unfold cutD
  rw [HT.sIx_none, show ((2 : Int)) = ((2 : Nat) : Int) from rfl, HT.sIx_nat]
  rfl
theorem eqv_key (a c : Nat) (b d : Str) : PyData.eqv (.tuple [.int (a : Nat), .str b]) (.tuple [.int (c : Nat), .str d]) = decide (a = c ∧ b = d) := by
  simp only [PyData.eqv, PyData.eqvAll, Bool.and_true]
  by_cases h1 : a = c
  · by_cases h2 : b = d
    · rw [decide_eq_true ⟨h1, h2⟩, h1, h2]
      simp
    · rw [decide_eq_false fun z => h2 z.2]
      simp [h2]
  · rw [decide_eq_false fun z => h1 z.1]
    have : ¬ ((a : Int) = (c : Int)) := by omega
    simp [this]
theorem shaped_key (a : Nat) {b : Str} (h : PyData.strOk b = true) : SeqAt.shaped (.tuple [.int (a : Nat), .str b]) = true := by
  show (PyData.canLay0 _ && decide (PyData.depth _ ≤ 64)) = true
  simp [PyData.canLay0, PyData.canLayAll0, PyData.depth, PyData.depthAll, h]
theorem side_ok {b : Str} (h : b = "left" ∨ b = "right") : PyData.strOk b = true := by
  rcases h with rfl | rfl <;> decide +kernel
theorem span_side {k : Nat} {gs : List (Nat × Nat)} {s : Spn} (h : s ∈ spansB k 0 (blocks gs)) : s.side = "left" ∨ s.side = "right" := by
  obtain ⟨b, hb, _, e⟩ := span_of _ _ s h
  obtain ⟨g, _, hc⟩ := blocks_mem hb
  rcases hc with ⟨c, _⟩ | ⟨c, _⟩
  · exact .inl (e.trans c)
  · exact .inr (e.trans c)
theorem Tx.spn {H : Hp} {v : V} {t : Spn} (h : Tx H v (spnD t)) : ∃ q, v = .ref q ∧ H q = some (.tup [.int (t.lev : Nat), .str t.side, .int (t.beg : Nat), .int (t.fin : Nat)]) := by
  obtain ⟨q, zs, rfl, hq, hz⟩ := h.tupOf
  cases hz with
  | cons z1 r1 => cases r1 with
    | cons z2 r2 => cases r2 with
      | cons z3 r3 => cases r3 with
        | cons z4 r4 =>
          cases r4
          cases z1
          cases z2
          cases z3
          cases z4
          exact ⟨q, rfl, hq⟩
theorem Tx.plc {H : Hp} {v : V} {p : Plc} (h : Tx H v (plcD p)) : ∃ q w, v = .ref q ∧ H q = some (.tup [.int (p.lev : Nat), .str p.side, .int (p.idx : Nat), w]) ∧ Tx H w (.tuple (p.path.map fun c => .int (c : Nat))) := by
  obtain ⟨q, zs, rfl, hq, hz⟩ := h.tupOf
  cases hz with
  | cons z1 r1 => cases r1 with
    | cons z2 r2 => cases r2 with
      | cons z3 r3 => cases r3 with
        | cons z4 r4 =>
          cases r4
          cases z1
          cases z2
          cases z3
          exact ⟨q, _, rfl, hq, z4⟩
theorem Tx.plain {H : Hp} {v : V} {p : Plc} (h : Tx H v (plcD p)) (hs : p.side = "left" ∨ p.side = "right") : Dx H v (plcD p) ∧ ∀ a s i w, plcD p = .tuple [a, s, i, w] → s.hasDict = false ∧ SeqAt.shaped s = true := by
  refine ⟨h.dx, fun a s i w e => ?_⟩
  unfold plcD at e
  injection e with e
  injection e with _ e
  injection e with e _
  subst e
  refine ⟨by simp [PyData.hasDict], ?_⟩
  rcases hs with q | q <;> rw [q] <;> decide +kernel
def spNumberOf : Sp := fun vs H Q _ => ∃ (k n : Nat) (x v : V) (gs : List (Nat × Nat)) (p : Plc), vs = [.int (k : Nat), x, v] ∧ (k = 2 ∨ k = 3) ∧ RowAt H x (rowN gs) ∧ Small gs ∧ rowB (rowD (rowN gs)) = true ∧ Tx H v (plcD p) ∧ (places k gs)[n]? = some p ∧ ∀ H', Same H H' → Q (.int (n : Nat)) H'
theorem one_filter {α β : Type} (f : α → Bool) (g : α → β) (t : α) : ([t].filter f).map g = if f t = true then [g t] else [] := by
  by_cases q : f t = true
  · rw [List.filter_cons, if_pos q, if_pos q] <;> rfl
  · rw [List.filter_cons, if_neg q, if_neg q] <;> rfl
theorem fold_cast (k : Nat) : ∀ (cs : List Nat) (q : Nat), ((cs.foldl (fun i p => i * k + p) q : Nat) : Int) = cs.foldl (fun (i : Int) (p : Nat) => i * (k : Int) + (p : Int)) (q : Int)
  | [], _ => rfl
  | c :: r, q => by
    rw [List.foldl_cons, List.foldl_cons, fold_cast k r, Int.natCast_add, Int.natCast_mul]
section
variable {P : Program} {w : World} {K : PySem.W.Frag} {mg : Str → Option Value} {base : Heap}
theorem c_place_of (T : Txt K mg) (C__check_number : CalG P w K mg base 10 "_check_number" ["arity", "row", "number"] spCheckNum) (C__place_at : CalG P w K mg base 2 "_place_at" ["arity", "row", "number"] spPlaceAt)
    (D : DefAt K mg "place_of" s_place_of ["arity", "row", "number"]) : CalG P w K mg base 11 "place_of" ["arity", "row", "number"] spPlaceOf := by
  refine calOk D sc_place_of (fun xs H Q E h => ?_) (fun f cdv A out s H xs Q E hgd hr h => ?_)
  · obtain ⟨k, n, x, gs, p, rfl, _⟩ := h
    rfl
  · obtain ⟨kk, n, x, gs, p, rfl, hk, hx, hsm, hb, hp, k⟩ := h
    have nd := sc_place_of.nd
    refine ⟨_, (pss_cons (ps_expr (pe_k C__check_number hgd hr (by decide) rfl (pa_cons (pv 0) (pa_cons (pv 1) (pa_cons (pv 2) pa_nil)))))
      (pss_one (ps_ret (pe_k C__place_at hgd hr (by decide) rfl (pa_cons (pv 0) (pa_cons (pv 1) (pa_cons (pv 2) pa_nil))))))), ?_⟩
    refine ⟨_, rfl, _, rfl, _, rfl, kk, n, x, gs, rfl, hk, hx, hsm, hb, (List.getElem?_eq_some_iff.mp hp).1, fun H1 s1 => ?_⟩
    exact ⟨_, rfl, _, rfl, _, rfl, kk, n, x, gs, p, rfl, hk, hx.grow s1, hsm, hp, fun v H2 s2 hv => k v H2 (s1.trans s2) hv⟩
theorem c_spans (T : Txt K mg) (C_check_arity : CalG P w K mg base 3 "check_arity" ["arity"] spCheckArity) (C_check_row : CalG P w K mg base 7 "check_row" ["row"] spCheckRow) (C__spans : CalG P w K mg base 1 "_spans" ["arity", "row"] spSpansB)
    (D : DefAt K mg "spans" s_spans ["arity", "row"]) : CalG P w K mg base 8 "spans" ["arity", "row"] spSpans := by
  refine calOk D sc_spans (fun xs H Q E h => ?_) (fun f cdv A out s H xs Q E hgd hr h => ?_)
  · obtain ⟨k, x, gs, rfl, _⟩ := h
    rfl
  · obtain ⟨kk, x, gs, rfl, hk, hx, hsm, hb, k⟩ := h
    have nd := sc_spans.nd
    refine ⟨_, (pss_cons (ps_expr (pe_k C_check_arity hgd hr (by decide) rfl (pa_cons (pv 0) pa_nil)))
      (pss_cons (ps_expr (pe_k C_check_row hgd hr (by decide) rfl (pa_cons (pv 1) pa_nil)))
      (pss_one (ps_ret (pe_k C__spans hgd hr (by decide) rfl (pa_cons (pv 0) (pa_cons (pv 1) pa_nil))))))), ?_⟩
    refine ⟨_, rfl, (kk : Nat), rfl, by omega, fun H1 s1 => ?_⟩
    refine ⟨_, rfl, x, _, rfl, (hx.grow s1).dx0, hb, fun H2 s2 => ?_⟩
    exact ⟨_, rfl, _, rfl, kk, x, gs, rfl, hk, hx.grow (s1.trans s2), hsm, fun v H3 s3 hv => k v H3 ((s1.trans s2).trans s3) hv⟩
theorem c_number_of (T : Txt K mg) (C_is_place : CalG P w K mg base 8 "is_place" ["arity", "row", "value"] spIsPlace) (C__spans : CalG P w K mg base 1 "_spans" ["arity", "row"] spSpansB)
    (D : DefAt K mg "number_of" s_number_of ["arity", "row", "place"]) : CalG P w K mg base 9 "number_of" ["arity", "row", "place"] spNumberOf := by
  refine calOk D sc_number_of (fun xs H Q E h => ?_) (fun f cdv A out s H xs Q E hgd hr h => ?_)
  · obtain ⟨k, n, x, v, gs, p, rfl, _⟩ := h
    rfl
  · obtain ⟨kk, n, x, v, gs, p, rfl, hk, hx, hsm, hb, hv, hp, k⟩ := h
    have nd := sc_number_of.nd
    refine ⟨_, (pss_cons (ps_if (pt_not (pt_val (pe_k C_is_place hgd hr (by decide) rfl (pa_cons (pv 0) (pa_cons (pv 1) (pa_cons (pv 2) pa_nil)))))) (pss_one (ps_never)) pss_nil)
      (pss_cons (ps_asg (pv 2) (pg_tup (by rfl) (pgs_cons (pg_name (i := 3) nd rfl (.inr rfl)) (pgs_cons (pg_name (i := 4) nd rfl (.inr rfl)) (pgs_cons (pg_name (i := 5) nd rfl (.inl rfl)) (pgs_cons (pg_name (i := 6) nd rfl (.inl rfl)) pgs_nil))))))
      (pss_cons (ps_for PassesOwn.never rfl (pi_tup (pv 6)) (pg_name (i := 7) nd rfl (.inl rfl)) (pss_one (ps_set (i := 5) nd rfl (.inl rfl) (pe_op op_add (pe_op op_mul (pv 5) (pv 0)) (pv 7)))))
      (pss_cons (ps_setLc (i := 8) (own := [("span", 9)]) (g := gName 9) (by rfl) nd rfl rfl (sw_true rfl rfl rfl (by decide +kernel)) (pi_tup (pe_k C__spans hgd hr (by decide) rfl (pa_cons (pv 0) (pa_cons (pv 1) pa_nil)))) (blkOk_by (own := [("span", 9)]) (N := N_number_of) (sc := defScope s_number_of) (by decide +kernel)) (fun _ _ _ _ _ => pg_name (i := 9) nd rfl (.inl rfl)) (fun _ _ _ _ _ => pts_one (pt_cmpR (show OpR _ (compareOp .Eq) (rEqD K) from op_eqD hr.units) (pe_slice sl_tupT (pv 9) po_none (po_some pe_int)) (pe_tup (pa_cons (pv 3) (pa_cons (pv 4) pa_nil))) (nomark _))) (fun _ _ _ _ _ => pe_ix (show IxR _ (rIxT K) from ix_tup) (pv 9) pe_int (fun _ _ => rfl)))
      (pss_one (ps_ret (pe_op op_add (pe_ix ix_list (pv 8) pe_int (fun _ _ => rfl)) (pv 5)))))))), ?_⟩
    obtain ⟨sp, _, ⟨rr, hf⟩, e1, e2, h1, h2, h3, h4, g, hg, hc⟩ := place_facts (by omega) hp
    have hside : p.side = "left" ∨ p.side = "right" := by
      rcases hc with ⟨c, _⟩ | ⟨c, _⟩
      · exact .inl c
      · exact .inr c
    obtain ⟨dv, dq⟩ := hv.plain hside
    have tr := place_true hk hsm hp
    refine a_if (fun b H' => b = false ∧ Same H H') (fun Q' kQ => ?_) (fun H' h => nomatch h.1) ?_
    · exact ⟨_, rfl, _, rfl, _, rfl, kk, x, v, gs, plcD p, rfl, hk, hx, hsm, hb, dv, dq, fun H1 s1 => ⟨_, rfl, kQ _ _ ⟨by rw [tr]; rfl, s1⟩⟩⟩
    rintro H1 ⟨_, s1⟩
    replace hv := hv.grow s1
    obtain ⟨q, wv, rfl, hq, hw⟩ := hv.plc
    obtain ⟨pa, ps, rfl, hpa, hps⟩ := hw.tupOf
    refine go_nx ?_
    refine ⟨_, rfl, q, _, rfl, SqT.of hq, rfl, _, _, rfl, _, _, rfl, _, _, rfl, _, _, rfl, rfl, ?_⟩
    refine go_nx ?_
    refine ⟨_, rfl, pa, rfl, ⟨_, SqT.of hpa⟩, ?_⟩
    have lps := hps.len
    rw [List.length_map] at lps
    refine for_tup (K := K) (a := pa) (xs := ps) (fun i σ H' => ∃ (v7 v8 v9 : Option V), σ = [some (.int (kk : Nat)), some x, some (.ref q), some (.int (p.lev : Nat)), some (.str p.side), some (.int (((p.path.take i).foldl (fun i p => i * kk + p) p.idx : Nat) : Int)), some (.ref pa), v7, v8, v9] ∧ H1 = H') ?_ ?_ ?_ ?_
    · exact ⟨_, _, _, rfl, rfl⟩
    · rintro i σ _ _ ⟨_, _, _, _, rfl⟩
      exact SqT.of hpa
    · rintro i y σ _ hi ⟨v7, v8, v9, rfl, rfl⟩
      obtain ⟨d, hd, hy⟩ := hps.get i y hi
      rw [List.getElem?_map] at hd
      obtain ⟨c, hcp, rfl⟩ := Option.map_eq_some_iff.mp hd
      cases hy
      refine ⟨_, rfl, _, rfl, _, _, rfl, rfl, .inr ⟨by omega, by omega⟩, _, rfl, _, _, rfl, rfl, ?_⟩
      refine ⟨some (.int (c : Nat)), v8, v9, ?_, rfl⟩
      rw [take_one hcp, List.foldl_append]
      have e : ((([c].foldl (fun i p => i * kk + p) ((p.path.take i).foldl (fun i p => i * kk + p) p.idx) : Nat)) : Int) = (((p.path.take i).foldl (fun i p => i * kk + p) p.idx : Nat) : Int) * (kk : Int) + (c : Int) := by
        show (((p.path.take i).foldl (fun i p => i * kk + p) p.idx * kk + c : Nat) : Int) = _
        rw [Int.natCast_add, Int.natCast_mul]
      rw [e]
      rfl
    · rintro σ _ ⟨v7, v8, v9, rfl, rfl⟩
      rw [lps, List.take_length]
      have fold : (p.path.foldl (fun i p => i * kk + p) p.idx) = n - sp.beg := by
        rw [h3, h4]
        exact dig_fold _ _
      rw [fold]
      refine go_nx ?_
      refine a_set (fun v H' => ∃ (b : Addr) (ys : List V), v = .ref b ∧ H' b = some (.lst (.int (sp.beg : Nat) :: ys)) ∧ Same H1 H') (fun Q' kQ => ?_) ?_
      · refine ⟨_, rfl, _, rfl, kk, x, gs, rfl, hk, hx.grow s1, hsm, fun v H2 s2 hv2 => ?_⟩
        obtain ⟨a, xs, rfl, ha, hxs⟩ := hv2.tupOf
        have lxs := hxs.len
        rw [List.length_map] at lxs
        have l5 := hsm.1
        have ls := spansB_len kk (blocks gs) 0
        have lb : (blocks gs).length ≤ 10 := by
          unfold blocks
          rw [List.length_append, List.length_reverse, (lefts_len _ _).1, (lefts_len _ _).2]
          omega
        refine ⟨a, rfl, ⟨_, SqT.of ha⟩, fun Dl nD => ?_⟩
        refine lc_tup (K := K) (a := a) (xs := xs) (fun i H' => ∃ ys, Same H2 H' ∧ H' Dl = some (.lst ys) ∧ ys = (((spansB kk 0 (blocks gs)).take i).filter fun t => decide (t.lev = p.lev ∧ t.side = p.side)).map fun t => V.int (t.beg : Nat)) ?_ ?_ ?_ ?_
        · exact ⟨[], same_new nD, upd_same, rfl⟩
        · rintro i H' _ ⟨_, s3, _⟩
          exact SqT.of (s3 _ _ ha)
        · rintro i y H3 hi ⟨ys, s3, hD, hY⟩
          obtain ⟨d, hd, hy⟩ := hxs.get i y hi
          rw [List.getElem?_map] at hd
          obtain ⟨t, ht, rfl⟩ := Option.map_eq_some_iff.mp hd
          replace hy := hy.grow s3
          have tk := take_one ht
          obtain ⟨b, rfl, hb2⟩ := hy.spn
          have ly : ys.length ≤ 10 := by
            rw [hY, List.length_map]
            have h2 := List.length_filter_le (fun t : Spn => decide (t.lev = p.lev ∧ t.side = p.side)) ((spansB kk 0 (blocks gs)).take i)
            rw [List.length_take] at h2
            omega
          have hts := span_side (List.mem_of_getElem? ht)
          have step : ((((spansB kk 0 (blocks gs)).take (i + 1)).filter fun t => decide (t.lev = p.lev ∧ t.side = p.side)).map fun t => V.int (t.beg : Nat)) = ((((spansB kk 0 (blocks gs)).take i).filter fun t => decide (t.lev = p.lev ∧ t.side = p.side)).map fun t => V.int (t.beg : Nat)) ++ (if decide (t.lev = p.lev ∧ t.side = p.side) = true then [V.int (t.beg : Nat)] else []) := by
            rw [tk, List.filter_append, List.map_append, one_filter]
          rw [step, ← hY]
          refine ⟨rfl, ?_⟩
          refine ⟨_, rfl, _, rfl, _, hy, fun v2 H4 s4 hv4 => ?_⟩
          rw [cut2] at hv4
          refine ⟨_, rfl, _, rfl, (by show 2 ≤ sizeLine; decide), fun p3 n3 => ?_⟩
          have s5 := same_new (o := .tup [.int (p.lev : Nat), .str p.side]) n3
          refine ⟨_, .tuple [.int (p.lev : Nat), .str p.side], (hv4.grow s5).dx.dp (by simp [PyData.hasDict, PyData.hasDictAll]), .tup (SqT.of upd_same) (.cons (.int _) (.cons (.str _) .nil)), shaped_key _ (side_ok hts), shaped_key _ (side_ok hside), _, congrArg V.bl (eqv_key _ _ _ _), ?_⟩
          have s45 := s4.trans s5
          have hD5 := s45 _ _ hD
          by_cases q : decide (t.lev = p.lev ∧ t.side = p.side) = true
          · rw [q]
            refine iteT ⟨_, rfl, b, _, _, _, rfl, rfl, SqT.of (s45 _ _ hb2), atI_nat (j := 2) rfl, ys, hD5, small1000 (by omega), _, same_put (s3.trans s45) nD, upd_same, ?_⟩
            rw [if_pos rfl]
          · rw [Bool.eq_false_iff.mpr q]
            refine iteF ⟨ys, s3.trans s45, hD5, ?_⟩
            rw [if_neg Bool.false_ne_true, List.append_nil]
        · rintro H3 ⟨ys, s3, hD, hY⟩
          rw [lxs, List.take_length, hf, List.map_cons] at hY
          rw [hY] at hD
          exact kQ _ _ ⟨Dl, _, rfl, hD, s2.trans s3⟩
      rintro _ H2 ⟨b, ys, rfl, hb2, s2⟩
      refine ⟨_, rfl, _, _, _, _, rfl, rfl, SqL.of hb2, atI_nat (j := 0) rfl, _, rfl, _, _, rfl, rfl, ?_⟩
      have e : (sp.beg : Int) + ((n - sp.beg : Nat) : Int) = (n : Int) := by omega
      show Q (.int ((sp.beg : Int) + ((n - sp.beg : Nat) : Int))) H2
      rw [e]
      exact k _ (s1.trans s2)
end
end G

set_option Elab.async false
set_option linter.all false
set_option maxRecDepth 100000
set_option maxHeartbeats 4000000
namespace G
open PySem PySem.Spec PyProof.Rows L2
def aheadD (ps : List Plc) (n : Nat) : PyData := if n = 0 then .none else match ps[n - 1]? with
  | some p => plcD p
  | none => .none
def behindD (ps : List Plc) (n : Nat) : PyData := match ps[n + 1]? with
  | some p => plcD p
  | none => .none
def spBeside : Sp := fun vs H Q _ => ∃ (k n : Nat) (x v : V) (gs : List (Nat × Nat)) (p : Plc), vs = [.int (k : Nat), x, v] ∧ (k = 2 ∨ k = 3) ∧ RowAt H x (rowN gs) ∧ Small gs ∧ rowB (rowD (rowN gs)) = true ∧ Tx H v (plcD p) ∧ (places k gs)[n]? = some p ∧
  ∀ v H', Same H H' → Tx H' v (.tuple [aheadD (places k gs) n, behindD (places k gs) n]) → Q v H'
def spOutward : Sp := fun vs H Q _ => ∃ (k n : Nat) (x : V) (gs : List (Nat × Nat)) (p : Plc), vs = [.int (k : Nat), x, .int (n : Nat)] ∧ (k = 2 ∨ k = 3) ∧ RowAt H x (rowN gs) ∧ Small gs ∧ rowB (rowD (rowN gs)) = true ∧ (places k gs)[n]? = some p ∧
  ∀ v H', Same H H' → Tx H' v (.tuple [.int (p.lev : Nat), .int (min (n : Int) (((places k gs).length : Int) - 1 - (n : Int)))]) → Q v H'
section
variable {P : Program} {w : World} {K : PySem.W.Frag} {mg : Str → Option Value} {base : Heap}
theorem c_beside (T : Txt K mg) (C_number_of : CalG P w K mg base 9 "number_of" ["arity", "row", "place"] spNumberOf) (C__place_at : CalG P w K mg base 2 "_place_at" ["arity", "row", "number"] spPlaceAt) (C_length_of : CalG P w K mg base 9 "length_of" ["arity", "row"] spLength)
    (D : DefAt K mg "beside" s_beside ["arity", "row", "place"]) : CalG P w K mg base 10 "beside" ["arity", "row", "place"] spBeside := by
  refine calOk D sc_beside (fun xs H Q E h => ?_) (fun f cdv A out s H xs Q E hgd hr h => ?_)
  · obtain ⟨k, n, x, v, gs, p, rfl, _⟩ := h
    rfl
  · obtain ⟨kk, n, x, v, gs, p, rfl, hk, hx, hsm, hb, hv, hp, k⟩ := h
    have nd := sc_beside.nd
    refine ⟨_, (pss_cons (ps_set (i := 3) nd rfl (.inl rfl) (pe_k C_number_of hgd hr (by decide) rfl (pa_cons (pv 0) (pa_cons (pv 1) (pa_cons (pv 2) pa_nil)))))
      (pss_cons (ps_set (i := 4) nd rfl (.inl rfl) (pe_ifExp (pt_cmpR op_gt (pv 3) pe_int (nomark _)) (pe_k C__place_at hgd hr (by decide) rfl (pa_cons (pv 0) (pa_cons (pv 1) (pa_cons (pe_op op_sub (pv 3) pe_int) pa_nil)))) pe_non))
      (pss_cons (ps_set (i := 5) nd rfl (.inl rfl) (pe_ifExp (pt_cmpR op_lt (pe_op op_add (pv 3) pe_int) (pe_k C_length_of hgd hr (by decide) rfl (pa_cons (pv 0) (pa_cons (pv 1) pa_nil))) (nomark _)) (pe_k C__place_at hgd hr (by decide) rfl (pa_cons (pv 0) (pa_cons (pv 1) (pa_cons (pe_op op_add (pv 3) pe_int) pa_nil)))) pe_non))
      (pss_one (ps_ret (pe_tup (pa_cons (pv 4) (pa_cons (pv 5) pa_nil)))))))), ?_⟩
    have lt := (List.getElem?_eq_some_iff.mp hp).1
    refine a_set (fun v H' => v = .int (n : Nat) ∧ Same H H') (fun Q' kQ => ?_) ?_
    · exact ⟨_, rfl, _, rfl, _, rfl, kk, n, x, v, gs, p, rfl, hk, hx, hsm, hb, hv, hp, fun H1 s1 => kQ _ _ ⟨rfl, s1⟩⟩
    rintro _ H1 ⟨rfl, s1⟩
    refine a_set (fun v H' => Tx H' v (aheadD (places kk gs) n) ∧ Same H1 H') (fun Q' kQ => ?_) ?_
    · refine ⟨_, rfl, _, _, rfl, rfl, _, rfl, ite2 (fun q => ?_) (fun q => ?_)⟩
      · have q : (0 : Int) < (n : Int) := of_decide_eq_true q
        obtain ⟨p1, hp1⟩ : ∃ p1, (places kk gs)[n - 1]? = some p1 := ⟨_, List.getElem?_eq_getElem (by omega)⟩
        have en : ((n : Int) - 1) = ((n - 1 : Nat) : Int) := by omega
        refine ⟨_, rfl, _, rfl, _, rfl, _, _, rfl, rfl, kk, n - 1, x, gs, p1, ?_, hk, hx.grow s1, hsm, hp1, fun v2 H2 s2 hv2 => kQ _ _ ⟨?_, s2⟩⟩
        · rw [← en]
          rfl
        · unfold aheadD
          rw [if_neg (by omega), hp1]
          exact hv2
      · have q : ¬ (0 : Int) < (n : Int) := of_decide_eq_false (Bool.eq_false_iff.mpr q)
        refine kQ _ _ ⟨?_, Same.refl _⟩
        unfold aheadD
        rw [if_pos (by omega)]
        exact .non
    rintro va H2 ⟨hva, s2⟩
    have s12 := s1.trans s2
    refine a_set (fun v H' => Tx H' v (behindD (places kk gs) n) ∧ Same H2 H') (fun Q' kQ => ?_) ?_
    · refine ⟨_, rfl, _, _, rfl, rfl, _, rfl, _, rfl, (kk : Nat), x, rowN gs, rfl, by omega, (hx.grow s12).dx0, hb, fun H3 s3 => ?_⟩
      rw [← places_len]
      refine ⟨_, _, rfl, rfl, _, rfl, ite2 (fun q => ?_) (fun q => ?_)⟩
      · have q : (n : Int) + 1 < ((places kk gs).length : Int) := of_decide_eq_true q
        obtain ⟨p1, hp1⟩ : ∃ p1, (places kk gs)[n + 1]? = some p1 := ⟨_, List.getElem?_eq_getElem (by omega)⟩
        refine ⟨_, rfl, _, rfl, _, rfl, _, _, rfl, rfl, kk, n + 1, x, gs, p1, rfl, hk, hx.grow (s12.trans s3), hsm, hp1, fun v2 H4 s4 hv2 => kQ _ _ ⟨?_, s3.trans s4⟩⟩
        unfold behindD
        rw [hp1]
        exact hv2
      · have q : ¬ (n : Int) + 1 < ((places kk gs).length : Int) := of_decide_eq_false (Bool.eq_false_iff.mpr q)
        refine kQ _ _ ⟨?_, s3⟩
        unfold behindD
        rw [List.getElem?_eq_none (by omega)]
        exact .non
    rintro vb H3 ⟨hvb, s3⟩
    refine ⟨_, rfl, _, rfl, (by show 2 ≤ sizeLine; decide), fun q nq => ?_⟩
    have s4 := same_new (o := .tup [va, vb]) nq
    exact k _ _ ((s12.trans s3).trans s4) (.tup upd_same (.cons (hva.grow (s3.trans s4)) (.cons (hvb.grow s4) .nil)))
theorem c_outward (T : Txt K mg) (C__check_number : CalG P w K mg base 10 "_check_number" ["arity", "row", "number"] spCheckNum) (C__place_at : CalG P w K mg base 2 "_place_at" ["arity", "row", "number"] spPlaceAt) (C_length_of : CalG P w K mg base 9 "length_of" ["arity", "row"] spLength)
    (D : DefAt K mg "outward" s_outward ["arity", "row", "number"]) : CalG P w K mg base 11 "outward" ["arity", "row", "number"] spOutward := by
  refine calOk D sc_outward (fun xs H Q E h => ?_) (fun f cdv A out s H xs Q E hgd hr h => ?_)
  · obtain ⟨k, n, x, gs, p, rfl, _⟩ := h
    rfl
  · obtain ⟨kk, n, x, gs, p, rfl, hk, hx, hsm, hb, hp, k⟩ := h
    have nd := sc_outward.nd
    refine ⟨_, (pss_cons (ps_expr (pe_k C__check_number hgd hr (by decide) rfl (pa_cons (pv 0) (pa_cons (pv 1) (pa_cons (pv 2) pa_nil)))))
      (pss_one (ps_ret (pe_tup (pa_cons (pe_ix ix_tup (pe_k C__place_at hgd hr (by decide) rfl (pa_cons (pv 0) (pa_cons (pv 1) (pa_cons (pv 2) pa_nil)))) pe_int (fun _ _ => rfl)) (pa_cons (pe_callB (call_min2 rfl) (by rfl) T.min (by decide +kernel) (pa_cons (pv 2) (pa_cons (pe_op op_sub (pe_op op_sub (pe_k C_length_of hgd hr (by decide) rfl (pa_cons (pv 0) (pa_cons (pv 1) pa_nil))) pe_int) (pv 2)) pa_nil))) pa_nil)))))), ?_⟩
    refine ⟨_, rfl, _, rfl, _, rfl, kk, n, x, gs, rfl, hk, hx, hsm, hb, (List.getElem?_eq_some_iff.mp hp).1, fun H1 s1 => ?_⟩
    refine go_nx ?_
    refine ⟨_, rfl, _, rfl, _, rfl, kk, n, x, gs, p, rfl, hk, hx.grow s1, hsm, hp, fun v H2 s2 hv => ?_⟩
    obtain ⟨q, w2, rfl, hq, _⟩ := hv.plc
    refine ⟨q, _, _, _, rfl, rfl, SqT.of hq, atI_nat (j := 0) rfl, _, rfl, _, rfl, _, rfl, (kk : Nat), x, rowN gs, rfl, by omega, (hx.grow (s1.trans s2)).dx0, hb, fun H3 s3 => ?_⟩
    rw [← places_len]
    refine ⟨_, _, rfl, rfl, _, rfl, _, _, rfl, rfl, _, _, rfl, (by show 2 ≤ sizeLine; decide), fun r nr => ?_⟩
    have em : (if ((places kk gs).length : Int) - 1 - (n : Int) < (n : Int) then ((places kk gs).length : Int) - 1 - (n : Int) else (n : Int)) = min (n : Int) (((places kk gs).length : Int) - 1 - (n : Int)) := by
      split <;> omega
    refine k _ _ (((s1.trans s2).trans s3).trans (same_new nr)) (.tup upd_same (.cons (.int _) (.cons ?_ .nil)))
    rw [← em]
    exact .int _
end
end G

set_option Elab.async false
set_option linter.all false
set_option maxRecDepth 100000
set_option maxHeartbeats 4000000
namespace G
open PySem PySem.Spec PyProof.Rows L2
/-! ## the law's own list of all places -/
def ListAt (H : Hp) (l : Addr) (ds : List PyData) : Prop := ∃ xs, H l = some (.lst xs) ∧ TxAll H xs ds
def pD (p : List Nat) : PyData := .tuple (p.map fun c => .int (c : Nat))
def long (c : Nat) (ps : List (List Nat)) : List (List Nat) := ps.flatMap fun p => (List.range c).map fun j => p ++ [j]
theorem long_app (c : Nat) (xs ys : List (List Nat)) : long c (xs ++ ys) = long c xs ++ long c ys := List.flatMap_append
theorem long_one (c : Nat) (p : List Nat) : long c [p] = (List.range c).map fun j => p ++ [j] := by simp [long]
theorem long_len (c : Nat) : ∀ ps, (long c ps).length = ps.length * c
  | [] => by simp [long]
  | p :: r => by
    have e : long c (p :: r) = long c [p] ++ long c r := long_app c [p] r
    rw [e, List.length_append, long_one, long_len c r, List.length_map, List.length_range, List.length_cons, Nat.succ_mul, Nat.add_comm]
theorem long_dig {c : Nat} (i : Nat) (hc : 0 < c) : ∀ n, long c ((List.range n).map (dig c i)) = (List.range (n * c)).map (dig c (i + 1))
  | 0 => by simp [long]
  | n + 1 => by
    rw [List.range_succ, List.map_append, long_app, long_dig i hc n, Nat.succ_mul, List.range_add, List.map_append]
    congr 1
    rw [List.map_cons, List.map_nil, long_one, List.map_map]
    refine List.map_congr_left fun j hj => ?_
    have hj : j < c := List.mem_range.mp hj
    show dig c i n ++ [j] = dig c i ((n * c + j) / c) ++ [(n * c + j) % c]
    have e1 : (n * c + j) / c = n := by
      rw [Nat.add_comm, Nat.add_mul_div_right _ _ hc, Nat.div_eq_of_lt hj, Nat.zero_add]
    have e2 : (n * c + j) % c = j := by
      rw [Nat.add_comm, Nat.add_mul_mod_self_right, Nat.mod_eq_of_lt hj]
    rw [e1, e2]
theorem blk_step {c : Nat} (b : Blk) (hc : 0 < c) (i : Nat) : (List.range ((i + 1) * c ^ b.lev)).map (plc c b) = (List.range (i * c ^ b.lev)).map (plc c b) ++ (List.range (c ^ b.lev)).map fun p => (⟨b.lev, b.side, i, dig c b.lev p⟩ : Plc) := by
  rw [Nat.succ_mul, List.range_add, List.map_append, List.map_map]
  congr 1
  refine List.map_congr_left fun j hj => ?_
  have hj : j < c ^ b.lev := List.mem_range.mp hj
  have hp : 0 < c ^ b.lev := Nat.pow_pos hc
  show (⟨b.lev, b.side, (i * c ^ b.lev + j) / c ^ b.lev, dig c b.lev (i * c ^ b.lev + j)⟩ : Plc) = _
  have e1 : (i * c ^ b.lev + j) / c ^ b.lev = i := by
    rw [Nat.add_comm, Nat.add_mul_div_right _ _ hp, Nat.div_eq_of_lt hj, Nat.zero_add]
  rw [e1, dig_add hc]
theorem rights_get : ∀ (gs : List (Nat × Nat)) (k j : Nat) (g : Nat × Nat), gs[j]? = some g → (rights k gs)[j]? = some ⟨k + j, "right", g.2⟩
  | [], _, _, _, h => by simp at h
  | x :: r, k, 0, g, h => by
    have h : x = g := Option.some.inj h
    subst h
    rfl
  | x :: r, k, j + 1, g, h => by
    have h : r[j]? = some g := h
    show (rights (k + 1) r)[j]? = _
    rw [rights_get r (k + 1) j g h, show k + 1 + j = k + (j + 1) by omega]
theorem placesB_app (K : Nat) (xs ys : List Blk) : placesB K (xs ++ ys) = placesB K xs ++ placesB K ys := List.flatMap_append
theorem placesB_one (K : Nat) (b : Blk) : placesB K [b] = blkPlaces K b := by simp [placesB]
theorem powC {c n : Nat} (hc : c = 2 ∨ c = 3) (h : n ≤ 5) : c ^ n ≤ 243 := by
  rcases hc with rfl | rfl
  · match n, h with
    | 0, _ => decide
    | 1, _ => decide
    | 2, _ => decide
    | 3, _ => decide
    | 4, _ => decide
    | 5, _ => decide
  · match n, h with
    | 0, _ => decide
    | 1, _ => decide
    | 2, _ => decide
    | 3, _ => decide
    | 4, _ => decide
    | 5, _ => decide
def spLonger : Sp := fun vs H Q _ => ∃ (l : Addr) (c : Nat) (ps : List (List Nat)), vs = [.ref l, .int (c : Int)] ∧ (c = 2 ∨ c = 3) ∧ ListAt H l (ps.map pD) ∧ ps.length ≤ 300 ∧ (∀ p ∈ ps, p.length ≤ 20) ∧
  ∀ (q : Addr) (H' : Hp), Same H H' → ListAt H' q ((long c ps).map pD) → Q (.ref q) H'
def spPaths : Sp := fun vs H Q _ => ∃ (c lev : Nat), vs = [.int (c : Int), .int (lev : Int)] ∧ (c = 2 ∨ c = 3) ∧ lev ≤ 5 ∧ ∀ (q : Addr) (H' : Hp), Same H H' → ListAt H' q (((List.range (c ^ lev)).map (dig c lev)).map pD) → Q (.ref q) H'
def spSideP : Sp := fun vs H Q _ => ∃ (c lev many : Nat) (sd : Str), vs = [.int (c : Int), .int (lev : Int), .str sd, .int (many : Int)] ∧ (c = 2 ∨ c = 3) ∧ lev ≤ 5 ∧ many ≤ 7 ∧
  ∀ (q : Addr) (H' : Hp), Same H H' → ListAt H' q ((blkPlaces c ⟨lev, sd, many⟩).map plcD) → Q (.ref q) H'
def spAll : Sp := fun vs H Q _ => ∃ (c : Nat) (x : V) (gs : List (Nat × Nat)), vs = [.int (c : Int), x] ∧ (c = 2 ∨ c = 3) ∧ RowAt H x (rowN gs) ∧ Small gs ∧
  ∀ (q : Addr) (H' : Hp), Same H H' → ListAt H' q ((places c gs).map plcD) → Q (.ref q) H'
section
variable {P : Program} {w : World} {K : PySem.W.Frag} {mg : Str → Option Value} {base : Heap}
theorem c_longer (T : Txt K mg) (D : DefAt K mg "_law_longer" s__law_longer ["_law_paths_here", "_law_arity"]) : CalG P w K mg base 1 "_law_longer" ["_law_paths_here", "_law_arity"] spLonger := by
  refine calOk D sc__law_longer (fun xs H Q E h => ?_) (fun f cdv A out s H xs Q E hgd hr h => ?_)
  · obtain ⟨l, c, ps, rfl, _⟩ := h
    rfl
  · obtain ⟨l, c, ps, rfl, hc, ⟨xs, hl, hX⟩, hn, hm, k⟩ := h
    have nd := sc__law_longer.nd
    refine ⟨_, (pss_cons (ps_set (i := 2) nd rfl (.inl rfl) (pe_lst pa_nil))
      (pss_cons (ps_for PassesOwn.never rfl (pi_list (pv 0)) (pg_name (i := 3) nd rfl (.inr rfl)) (pss_one (ps_expr (pe_bm PySem.F.plainAttrs_list PySem.F.slot_list_extend PySem.F.type_list_extend mt_extend (pv 2) (pa_cons (pe_lc (own := [("_law_part", 4)]) (g := gName 4) (by rfl) nd (pi_range1 rfl T.range (pa_cons (pv 1) pa_nil)) (blkOk_by (own := [("_law_part", 4)]) (N := N__law_longer) (sc := defScope s__law_longer) (by decide +kernel)) (fun _ _ _ _ _ => pg_name (i := 4) nd rfl (.inl rfl)) (fun _ _ _ _ _ => pts_nil) (fun _ _ _ _ _ => pe_op (show OpR _ (binaryOp .Add) (rCatA K) from op_catA) (pv 3) (pe_tup (pa_cons (pv 4) pa_nil)))) pa_nil)))))
      (pss_one (ps_ret (pv 2))))), ?_⟩
    have lx := hX.len
    rw [List.length_map] at lx
    refine ⟨(by show 0 ≤ sizeLine; decide), fun q nq => ?_⟩
    have s1 := same_new (o := .lst []) nq
    refine ⟨_, rfl, l, rfl, ⟨_, SqL.of (s1 _ _ hl)⟩, ?_⟩
    refine for_list (K := K) (a := l) (xs := xs) (fun i σ H' => ∃ v3 v4 ys, σ = [some (.ref l), some (.int c), some (.ref q), v3, v4] ∧ Same H H' ∧ H' q = some (.lst ys) ∧ TxAll H' ys ((long c (ps.take i)).map pD)) ?_ ?_ ?_ ?_
    · exact ⟨_, _, [], rfl, s1, upd_same, .nil⟩
    · rintro i σ H' _ ⟨_, _, _, _, s2, _⟩
      exact SqL.of (s2 _ _ hl)
    · rintro i x σ H2 hi ⟨v3, v4, ys, rfl, s2, hq, hY⟩
      obtain ⟨d, hd, hx⟩ := hX.get i x hi
      rw [List.getElem?_map] at hd
      obtain ⟨p0, hp0, rfl⟩ := Option.map_eq_some_iff.mp hd
      have hp20 := hm p0 (List.mem_of_getElem? hp0)
      obtain ⟨a, zs, rfl, ha2, hZ⟩ := (hx.grow s2).tupOf
      have lz := hZ.len
      rw [List.length_map] at lz
      have hil : i < xs.length := (List.getElem?_eq_some_iff.mp hi).1
      have ly := hY.len
      rw [List.length_map, long_len, List.length_take, Nat.min_eq_left (by omega)] at ly
      refine ⟨_, rfl, .inl ⟨rfl, _, SqL.of hq⟩, _, rfl, _, rfl, (by omega), (by omega), fun Dl nD => ?_⟩
      have nqD : q ≠ Dl := ne_of_none hq nD
      refine lc_range (fun j H' => ∃ ws, Same H2 H' ∧ H' Dl = some (.lst ws) ∧ TxAll H' ws (((List.range j).map fun t => p0 ++ [t]).map pD)) ?_ ?_ ?_
      · exact ⟨[], same_new nD, upd_same, .nil⟩
      · rintro j H3 hj ⟨ws, s3, hD, hW⟩
        have lw := hW.len
        rw [List.length_map, List.length_map, List.length_range] at lw
        refine ⟨rfl, ?_⟩
        have e0 : (0 : Int) + (j : Int) = ((j : Nat) : Int) := Int.zero_add _
        rw [e0]
        refine ⟨_, rfl, _, rfl, (by show 1 ≤ sizeLine; decide), fun p np => ?_⟩
        have s4 := same_new (o := .tup [.int (j : Int)]) np
        have hD4 := s4 _ _ hD
        have lw : ws.length < sizeLine := small1000 (by omega)
        have put : ∀ (H5 : Hp) (r : Addr) (us : List V), Same (upd H3 p (.tup [.int (j : Int)])) H5 → H5 r = some (.tup us) → TxAll H5 us ((p0 ++ [j]).map fun c => .int (c : Nat)) →
            ∃ acc, H5 Dl = some (.lst acc) ∧ acc.length < sizeLine ∧ ∃ ws', Same H2 (upd H5 Dl (.lst (acc ++ [.ref r]))) ∧ upd H5 Dl (.lst (acc ++ [.ref r])) Dl = some (.lst ws') ∧
              TxAll (upd H5 Dl (.lst (acc ++ [.ref r]))) ws' (((List.range (j + 1)).map fun t => p0 ++ [t]).map pD) := by
          intro H5 r us s5 hr5 hu
          have hD5 := s5 _ _ hD4
          have kp : TupK H5 (upd H5 Dl (.lst (ws ++ [.ref r]))) := tupk_put hD5
          refine ⟨ws, hD5, lw, ws ++ [.ref r], Same.put ((s3.trans s4).trans s5) nD, upd_same, ?_⟩
          rw [List.range_succ, List.map_append, List.map_append]
          exact ((hW.grow (s4.trans s5)).keep kp).append (.cons (.tup (kp _ _ hr5) (hu.keep kp)) .nil)
        refine ⟨a, p, zs, [.int (j : Int)], rfl, rfl, SqT.of (s4 _ _ (s3 _ _ ha2)), SqT.of upd_same, Nat.le_trans (show zs.length + 1 ≤ 100 by omega) (by decide), fun e => ?_, fun _ e => ?_, fun _ _ r nr => ?_⟩
        · subst e
          have e1 : p0 = [] := List.eq_nil_of_length_eq_zero (by rw [← lz]; rfl)
          subst e1
          exact put _ p _ (Same.refl _) upd_same (.cons (.int _) .nil)
        · cases e
        · refine put _ r _ (same_new nr) upd_same ?_
          rw [List.map_append]
          exact (hZ.grow ((s3.trans s4).trans (same_new nr))).append (.cons (.int _) .nil)
      · rintro H3 ⟨ws, s3, hD, hW⟩
        have hq3 := s3 _ _ hq
        have lw := hW.len
        rw [List.length_map, List.length_map, List.length_range] at lw
        have b1 : i * c ≤ 900 := by
          have := Nat.mul_le_mul (show i ≤ 300 by omega) (show c ≤ 3 by omega)
          omega
        refine ⟨q, Dl, ys, ws, rfl, rfl, hq3, hD, Nat.le_trans (show ys.length + ws.length ≤ 1000 by omega) (by decide), ?_⟩
        have kp : TupK H3 (upd H3 q (.lst (ys ++ ws))) := tupk_put hq3
        refine ⟨_, _, ys ++ ws, rfl, Same.put (s2.trans s3) nq, upd_same, ?_⟩
        rw [take_one hp0, long_app, long_one, List.map_append]
        exact ((hY.grow s3).keep kp).append (hW.keep kp)
    · rintro σ H2 ⟨v3, v4, ys, rfl, s2, hq, hY⟩
      rw [lx, List.take_length] at hY
      exact ⟨_, rfl, k q H2 s2 ⟨ys, hq, hY⟩⟩
theorem c_paths (T : Txt K mg) (C__law_longer : CalG P w K mg base 1 "_law_longer" ["_law_paths_here", "_law_arity"] spLonger) (D : DefAt K mg "_law_paths" s__law_paths ["_law_arity", "_law_level"]) :
    CalG P w K mg base 2 "_law_paths" ["_law_arity", "_law_level"] spPaths := by
  refine calOk D sc__law_paths (fun xs H Q E h => ?_) (fun f cdv A out s H xs Q E hgd hr h => ?_)
  · obtain ⟨c, lev, rfl, _⟩ := h
    rfl
  · obtain ⟨c, lev, rfl, hc, hlev, k⟩ := h
    have nd := sc__law_paths.nd
    refine ⟨_, (pss_cons (ps_set (i := 2) nd rfl (.inl rfl) (pe_lst (pa_cons (pe_tup pa_nil) pa_nil)))
      (pss_cons (ps_for PassesOwn.never rfl (pi_range1 rfl T.range (pa_cons (pv 1) pa_nil)) (pg_name (i := 3) nd rfl (.inl rfl)) (pss_one (ps_set (i := 2) nd rfl (.inl rfl) (pe_k C__law_longer hgd hr (by decide) rfl (pa_cons (pv 2) (pa_cons (pv 0) pa_nil))))))
      (pss_one (ps_ret (pv 2))))), ?_⟩
    refine ⟨(by show 0 ≤ sizeLine; decide), fun p np => ⟨(by show 1 ≤ sizeLine; decide), fun q nq => ?_⟩⟩
    have s1 := same_new (o := .tup []) np
    have s2 := same_new (o := .lst [.ref p]) nq
    refine ⟨_, rfl, _, rfl, (by omega), (by omega), ?_⟩
    refine for_range (fun i σ H' => ∃ v3 q, σ = [some (.int c), some (.int lev), some (.ref q), v3] ∧ Same H H' ∧ ListAt H' q (((List.range (c ^ i)).map (dig c i)).map pD)) ?_ ?_ ?_
    · refine ⟨_, q, rfl, s1.trans s2, [.ref p], upd_same, ?_⟩
      have e : ((List.range (c ^ 0)).map (dig c 0)).map pD = [pD []] := rfl
      rw [e]
      exact .cons (.tup (s2 _ _ upd_same) .nil) .nil
    · rintro i σ H2 hi ⟨v3, q2, rfl, s3, hp⟩
      refine ⟨_, rfl, _, rfl, q2, c, (List.range (c ^ i)).map (dig c i), rfl, hc, hp, ?_, fun p hp => ?_, fun q3 H3 s4 h3 => ?_⟩
      · have := powC hc (show i ≤ 5 by omega)
        rw [List.length_map, List.length_range]
        omega
      · obtain ⟨j, _, rfl⟩ := List.mem_map.mp hp
        rw [dig_len]
        omega
      · refine ⟨_, q3, rfl, s3.trans s4, ?_⟩
        rw [long_dig i (by omega)] at h3
        rw [Nat.pow_succ]
        exact h3
    · rintro σ H2 ⟨v3, q2, rfl, s3, hp⟩
      exact ⟨_, rfl, k q2 H2 s3 hp⟩
theorem c_side_places (T : Txt K mg) (C__law_paths : CalG P w K mg base 2 "_law_paths" ["_law_arity", "_law_level"] spPaths) (D : DefAt K mg "_law_side_places" s__law_side_places ["_law_arity", "_law_level", "_law_side", "_law_many"]) :
    CalG P w K mg base 3 "_law_side_places" ["_law_arity", "_law_level", "_law_side", "_law_many"] spSideP := by
  refine calOk D sc__law_side_places (fun xs H Q E h => ?_) (fun f cdv A out s H xs Q E hgd hr h => ?_)
  · obtain ⟨c, lev, many, sd, rfl, _⟩ := h
    rfl
  · obtain ⟨c, lev, many, sd, rfl, hc, hlev, hmany, k⟩ := h
    have nd := sc__law_side_places.nd
    refine ⟨_, (pss_cons (ps_set (i := 4) nd rfl (.inl rfl) (pe_lst pa_nil))
      (pss_cons (ps_for PassesOwn.never rfl (pi_range1 rfl T.range (pa_cons (pv 3) pa_nil)) (pg_name (i := 5) nd rfl (.inr rfl)) (pss_one (ps_expr (pe_bm PySem.F.plainAttrs_list PySem.F.slot_list_extend PySem.F.type_list_extend mt_extend (pv 4) (pa_cons (pe_lc (own := [("_law_path", 6)]) (g := gName 6) (by rfl) nd (pi_list (pe_k C__law_paths hgd hr (by decide) rfl (pa_cons (pv 0) (pa_cons (pv 1) pa_nil)))) (blkOk_by (own := [("_law_path", 6)]) (N := N__law_side_places) (sc := defScope s__law_side_places) (by decide +kernel)) (fun _ _ _ _ _ => pg_name (i := 6) nd rfl (.inl rfl)) (fun _ _ _ _ _ => pts_nil) (fun _ _ _ _ _ => pe_tup (pa_cons (pv 1) (pa_cons (pv 2) (pa_cons (pv 5) (pa_cons (pv 6) pa_nil)))))) pa_nil)))))
      (pss_one (ps_ret (pv 4))))), ?_⟩
    have hpow := powC hc hlev
    refine ⟨(by show 0 ≤ sizeLine; decide), fun q nq => ?_⟩
    refine ⟨_, rfl, _, rfl, (by omega), (by omega), ?_⟩
    refine for_range (fun i σ H' => ∃ v5 v6 ys, σ = [some (.int c), some (.int lev), some (.str sd), some (.int many), some (.ref q), v5, v6] ∧ Same H H' ∧ H' q = some (.lst ys) ∧ TxAll H' ys (((List.range (i * c ^ lev)).map (plc c ⟨lev, sd, many⟩)).map plcD)) ?_ ?_ ?_
    · refine ⟨_, _, [], rfl, same_new nq, upd_same, ?_⟩
      rw [Nat.zero_mul]
      exact .nil
    · rintro i σ H2 hi ⟨v5, v6, ys, rfl, s2, hq, hY⟩
      have ly := hY.len
      rw [List.length_map, List.length_map, List.length_range] at ly
      refine ⟨_, rfl, .inl ⟨rfl, _, SqL.of hq⟩, _, rfl, _, rfl, c, lev, rfl, hc, hlev, fun q3 H3 s3 h3 => ?_⟩
      obtain ⟨xs, hq3, hX⟩ := h3
      have lx := hX.len
      rw [List.length_map, List.length_map, List.length_range] at lx
      refine ⟨q3, rfl, ⟨_, SqL.of hq3⟩, fun Dl nD => ?_⟩
      refine lc_list (K := K) (a := q3) (xs := xs) (fun j H' => ∃ ws, Same H3 H' ∧ H' Dl = some (.lst ws) ∧ TxAll H' ws (((List.range j).map fun p => (⟨lev, sd, i, dig c lev p⟩ : Plc)).map plcD)) ?_ ?_ ?_ ?_
      · exact ⟨[], same_new nD, upd_same, .nil⟩
      · rintro j H' _ ⟨_, s4, _⟩
        exact SqL.of (s4 _ _ hq3)
      · rintro j x H4 hj ⟨ws, s4, hD, hW⟩
        have hjl : j < xs.length := (List.getElem?_eq_some_iff.mp hj).1
        have lw := hW.len
        rw [List.length_map, List.length_map, List.length_range] at lw
        obtain ⟨d, hd, hx⟩ := hX.get j x hj
        have ed : d = pD (dig c lev j) := by
          rw [List.getElem?_map, List.getElem?_map, List.getElem?_range (by omega)] at hd
          exact (Option.some.inj hd).symm
        subst ed
        have e0 : (0 : Int) + (i : Int) = ((i : Nat) : Int) := Int.zero_add _
        rw [e0]
        refine ⟨rfl, ?_⟩
        refine ⟨_, rfl, _, rfl, _, rfl, _, rfl, (by show 4 ≤ sizeLine; decide), fun p np => ?_⟩
        have s5 := same_new (o := .tup [.int lev, .str sd, .int (i : Int), x]) np
        have hD5 := s5 _ _ hD
        have kp : TupK (upd H4 p (.tup [.int lev, .str sd, .int (i : Int), x])) (upd (upd H4 p (.tup [.int lev, .str sd, .int (i : Int), x])) Dl (.lst (ws ++ [.ref p]))) := tupk_put hD5
        refine ⟨ws, hD5, small1000 (by omega), ws ++ [.ref p], Same.put (s4.trans s5) nD, upd_same, ?_⟩
        rw [List.range_succ, List.map_append, List.map_append]
        exact ((hW.grow s5).keep kp).append (.cons (.tup (kp _ _ upd_same) (.cons (.int _) (.cons (.str _) (.cons (.int _) (.cons ((hx.grow (s4.trans s5)).keep kp) .nil))))) .nil)
      · rintro H4 ⟨ws, s4, hD, hW⟩
        have hq4 := s4 _ _ (s3 _ _ hq)
        have lw := hW.len
        rw [List.length_map, List.length_map, List.length_range] at lw
        have b1 : i * c ^ lev ≤ 7 * 243 := Nat.mul_le_mul (show i ≤ 7 by omega) hpow
        have kp : TupK H4 (upd H4 q (.lst (ys ++ ws))) := tupk_put hq4
        refine ⟨q, Dl, ys, ws, rfl, rfl, hq4, hD, Nat.le_trans (show ys.length + ws.length ≤ 10000 by omega) (by decide), ?_⟩
        refine ⟨_, _, ys ++ ws, rfl, Same.put ((s2.trans s3).trans s4) nq, upd_same, ?_⟩
        have e := blk_step (c := c) ⟨lev, sd, many⟩ (by omega) i
        rw [show (List.range ((i + 1) * c ^ lev)).map (plc c ⟨lev, sd, many⟩) = _ from e, List.map_append]
        rw [lx] at hW
        exact ((hY.grow (s3.trans s4)).keep kp).append (hW.keep kp)
    · rintro σ H2 ⟨v5, v6, ys, rfl, s2, hq, hY⟩
      exact ⟨_, rfl, k q H2 s2 ⟨ys, hq, hY⟩⟩
theorem c_all (T : Txt K mg) (C__law_side_places : CalG P w K mg base 3 "_law_side_places" ["_law_arity", "_law_level", "_law_side", "_law_many"] spSideP) (D : DefAt K mg "_law_all_places" s__law_all_places ["_law_arity", "_law_row"]) :
    CalG P w K mg base 4 "_law_all_places" ["_law_arity", "_law_row"] spAll := by
  refine calOk D sc__law_all_places (fun xs H Q E h => ?_) (fun f cdv A out s H xs Q E hgd hr h => ?_)
  · obtain ⟨c, x, fs, rfl, _⟩ := h
    rfl
  · obtain ⟨c, x, gs, rfl, hc, hx, hsm, k⟩ := h
    have nd := sc__law_all_places.nd
    refine ⟨_, (pss_cons (ps_set (i := 2) nd rfl (.inl rfl) (pe_lst pa_nil))
      (pss_cons (ps_for PassesOwn.never rfl (pi_range1 rfl T.range (pa_cons (pe_callB call_len_seq (by rfl) T.len (by decide +kernel) (pa_cons (pv 1) pa_nil)) pa_nil)) (pg_name (i := 3) nd rfl (.inl rfl)) (pss_one (ps_expr (pe_bm PySem.F.plainAttrs_list PySem.F.slot_list_extend PySem.F.type_list_extend mt_extend (pv 2) (pa_cons (pe_k C__law_side_places hgd hr (by decide) rfl (pa_cons (pv 0) (pa_cons (pv 3) (pa_cons pe_str (pa_cons (pe_ix ix_tup (pe_ix ix_tup (pv 1) (pv 3) (fun _ _ => rfl)) pe_int (fun _ _ => rfl)) pa_nil))))) pa_nil)))))
      (pss_cons (ps_for PassesOwn.never rfl (pi_range3 rfl T.range (pa_cons (pe_op op_sub (pe_callB call_len_seq (by rfl) T.len (by decide +kernel) (pa_cons (pv 1) pa_nil)) pe_int) (pa_cons (pe_un un_neg pe_int) (pa_cons (pe_un un_neg pe_int) pa_nil)))) (pg_name (i := 3) nd rfl (.inl rfl)) (pss_one (ps_expr (pe_bm PySem.F.plainAttrs_list PySem.F.slot_list_extend PySem.F.type_list_extend mt_extend (pv 2) (pa_cons (pe_k C__law_side_places hgd hr (by decide) rfl (pa_cons (pv 0) (pa_cons (pv 3) (pa_cons pe_str (pa_cons (pe_ix ix_tup (pe_ix ix_tup (pv 1) (pv 3) (fun _ _ => rfl)) pe_int (fun _ _ => rfl)) pa_nil))))) pa_nil)))))
      (pss_one (ps_ret (pv 2)))))), ?_⟩
    obtain ⟨a, xs, rfl, ha, hF⟩ := hx
    have lx : xs.length = gs.length := by rw [hF.len, rowN, List.length_map]
    have l5 := hsm.1
    have item : ∀ i, i < xs.length → ∃ p g, xs[i]? = some (.ref p) ∧ gs[i]? = some g ∧ H p = some (.tup [.int (g.1 : Nat), .int (g.2 : Nat)]) ∧ g.1 ≤ 7 ∧ g.2 ≤ 7 := fun i hi => by
      obtain ⟨p, f, e, hf, hp⟩ := hF.get i xs[i] (List.getElem?_eq_getElem hi)
      rw [rowN, List.getElem?_map] at hf
      obtain ⟨g, hg, rfl⟩ := Option.map_eq_some_iff.mp hf
      have := hsm.2 g (List.mem_of_getElem? hg)
      exact ⟨p, g, by rw [← e]; exact List.getElem?_eq_getElem hi, hg, hp, this.1, this.2⟩
    have bl : ∀ (lev many : Nat) (sd : Str), lev ≤ 5 → many ≤ 7 → (blkPlaces c ⟨lev, sd, many⟩).length ≤ 1701 := fun lev many sd h1 h2 => by
      have e : (blkPlaces c ⟨lev, sd, many⟩).length = many * c ^ lev := by simp [blkPlaces, Blk.sz]
      rw [e]
      exact Nat.mul_le_mul h2 (powC hc h1)
    refine ⟨(by show 0 ≤ sizeLine; decide), fun q nq => ?_⟩
    have s1 := same_new (o := .lst []) nq
    refine ⟨_, rfl, a, xs, rfl, .inr (SqT.of (s1 _ _ ha)), _, rfl, (by omega), (by omega), ?_⟩
    refine for_range (fun i σ H' => ∃ v3 ls, σ = [some (.int c), some (.ref a), some (.ref q), v3] ∧ Same H H' ∧ H' q = some (.lst ls) ∧ TxAll H' ls ((placesB c (lefts 0 (gs.take i))).map plcD) ∧ ls.length ≤ i * 1701) ?_ ?_ ?_
    · exact ⟨_, [], rfl, s1, upd_same, .nil, Nat.zero_le _⟩
    · rintro i σ H2 hi ⟨v3, ls, rfl, s2, hq, hL, hl⟩
      have hil : i < xs.length := by omega
      obtain ⟨p, g, hxi, hg, hp, g1, g2⟩ := item i hil
      have e0 : (0 : Int) + (i : Int) = (i : Int) := Int.zero_add _
      refine ⟨_, rfl, .inl ⟨rfl, _, SqL.of hq⟩, _, rfl, _, rfl, _, rfl, _, rfl, _, _, _, _, rfl, rfl, SqT.of (s2 _ _ ha), (by rw [e0]; exact atI_nat hxi), _, _, _, _, rfl, rfl, SqT.of (s2 _ _ hp), atI_nat (j := 0) rfl, ?_⟩
      refine ⟨c, i, g.1, "left", (by rw [e0]; rfl), hc, by omega, g1, fun q3 H3 s3 h3 => ?_⟩
      obtain ⟨ws, hq3, hW⟩ := h3
      have hqq := s3 _ _ hq
      have lw := hW.len
      rw [List.length_map] at lw
      have := bl i g.1 "left" (by omega) g1
      have kp : TupK H3 (upd H3 q (.lst (ls ++ ws))) := tupk_put hqq
      refine ⟨q, q3, ls, ws, rfl, rfl, hqq, hq3, Nat.le_trans (show ls.length + ws.length ≤ 100000 by omega) (by decide), ?_⟩
      refine ⟨_, ls ++ ws, rfl, Same.put (s2.trans s3) nq, upd_same, ?_, by rw [List.length_append]; omega⟩
      rw [take_one hg, lefts_snoc, List.length_take, Nat.min_eq_left (by omega), Nat.zero_add, placesB_app, placesB_one, List.map_append]
      exact ((hL.grow s3).keep kp).append (hW.keep kp)
    · rintro σ H2 ⟨v3, ls, rfl, s2, hq, hL, hl⟩
      refine go_nx ?_
      rw [show (Int.toNat (xs.length : Int)) = gs.length by omega] at hL hl
      rw [List.take_length] at hL
      refine ⟨_, rfl, a, xs, rfl, .inr (SqT.of (s2 _ _ ha)), _, _, rfl, rfl, _, rfl, _, rfl, _, _, _, _, rfl, RgC.neg (by omega) (by omega) (by decide) (by decide), ?_⟩
      have cnt : (((xs.length : Int) - 1) - (-1)).toNat = xs.length := by omega
      refine for_rangeC (fun i σ H' => ∃ v3 rs, σ = [some (.int c), some (.ref a), some (.ref q), v3] ∧ Same H H' ∧ H' q = some (.lst rs) ∧ TxAll H' rs ((placesB c (lefts 0 gs ++ (rights 0 gs).reverse.take i)).map plcD) ∧ rs.length ≤ (gs.length + i) * 1701) ?_ ?_ ?_
      · refine ⟨_, ls, rfl, s2, hq, ?_, hl⟩
        rw [List.take_zero, List.append_nil]
        exact hL
      · rintro i σ H4 hi ⟨v3, rs, rfl, s4, hq4, hR, hl4⟩
        have hi' : i < xs.length := by
          have h := hi
          omega
        have hil : xs.length - 1 - i < xs.length := by omega
        obtain ⟨p, g, hxi, hg, hp, g1, g2⟩ := item (xs.length - 1 - i) hil
        have e0 : (xs.length : Int) - 1 + ((i : Nat) : Int) * -1 = ((xs.length - 1 - i : Nat) : Int) := by omega
        refine ⟨_, rfl, .inl ⟨rfl, _, SqL.of hq4⟩, _, rfl, _, rfl, _, rfl, _, rfl, _, _, _, _, rfl, rfl, SqT.of (s4 _ _ ha), (by rw [e0]; exact atI_nat hxi), _, _, _, _, rfl, rfl, SqT.of (s4 _ _ hp), atI_nat (j := 1) rfl, ?_⟩
        refine ⟨c, xs.length - 1 - i, g.2, "right", (by rw [e0]; rfl), hc, by omega, g2, fun q3 H3 s3 h3 => ?_⟩
        obtain ⟨ws, hq3, hW⟩ := h3
        have hqq := s3 _ _ hq4
        have lw := hW.len
        rw [List.length_map] at lw
        have := bl (xs.length - 1 - i) g.2 "right" (by omega) g2
        have kp : TupK H3 (upd H3 q (.lst (rs ++ ws))) := tupk_put hqq
        have hrv : (rights 0 gs).reverse[i]? = some ⟨xs.length - 1 - i, "right", g.2⟩ := by
          have lr := (lefts_len gs 0).2
          rw [List.getElem?_reverse (by omega), lr, ← lx, rights_get gs 0 _ g hg, Nat.zero_add]
        refine ⟨q, q3, rs, ws, rfl, rfl, hqq, hq3, Nat.le_trans (show rs.length + ws.length ≤ 100000 by omega) (by decide), ?_⟩
        refine ⟨_, rs ++ ws, rfl, Same.put (s4.trans s3) nq, upd_same, ?_, by rw [List.length_append]; omega⟩
        rw [take_one hrv, ← List.append_assoc, placesB_app, placesB_one, List.map_append]
        exact ((hR.grow s3).keep kp).append (hW.keep kp)
      · rintro σ H4 ⟨v3, rs, rfl, s4, hq4, hR, hl4⟩
        refine ⟨_, rfl, k q H4 s4 ⟨rs, hq4, ?_⟩⟩
        have lr := (lefts_len gs 0).2
        rw [cnt, List.take_of_length_le (by rw [List.length_reverse, lr]; omega)] at hR
        exact hR
end
end G

set_option Elab.async false
set_option linter.all false
set_option maxRecDepth 100000
set_option maxHeartbeats 4000000
namespace G
open PySem PySem.Spec PyProof.Rows L2
theorem spns_flat : ∀ F : List Spn, (∀ s ∈ F, PyData.strOk s.side = true) → PyData.canLayAll0 (F.map spnD) = true ∧ PyData.depthAll (F.map spnD) ≤ 2 ∧ PyData.hasDictAll (F.map spnD) = false
  | [], _ => ⟨rfl, by simp [PyData.depthAll], rfl⟩
  | s :: r, h => by
    obtain ⟨h1, h2, h3⟩ := spns_flat r fun t ht => h t (List.mem_cons_of_mem _ ht)
    have h0 := h s List.mem_cons_self
    refine ⟨?_, ?_, ?_⟩
    · simp only [List.map_cons, PyData.canLayAll0, spnD, PyData.canLay0, h1, h0, Bool.and_self]
    · simp only [List.map_cons, PyData.depthAll, spnD, PyData.depth]
      omega
    · simp only [List.map_cons, PyData.hasDictAll, spnD, PyData.hasDict, h3, Bool.or_self]
theorem shaped_spns {F : List Spn} (h : ∀ s ∈ F, PyData.strOk s.side = true) : SeqAt.shaped (.list (F.map spnD)) = true := by
  obtain ⟨h1, h2, _⟩ := spns_flat F h
  show (PyData.canLay0 _ && decide (PyData.depth _ ≤ 64)) = true
  simp only [PyData.canLay0, PyData.depth, h1, Bool.true_and]
  exact decide_eq_true (by omega)
theorem eqv_nilL (ds : List PyData) : PyData.eqv (.list ds) (.list []) = ds.isEmpty := by
  cases ds <;> simp [PyData.eqv, PyData.eqvAll]
theorem grp1_len (F : List Spn) (n : Nat) (p : Plc) : (grp1 F n p).length ≤ F.length + 1 := by
  unfold grp1
  split
  · exact Nat.le_add_left _ _
  · split
    · rw [List.length_append, List.length_dropLast]
      simp
    · rw [List.length_append]
      exact Nat.le_refl _
theorem grp1_ok (F : List Spn) (n : Nat) (p : Plc) (h : ∀ s ∈ F, PyData.strOk s.side = true) (hp : PyData.strOk p.side = true) : ∀ s ∈ grp1 F n p, PyData.strOk s.side = true := by
  intro s hs
  unfold grp1 at hs
  split at hs
  · rw [List.mem_singleton.mp hs]
    exact hp
  · split at hs
    · rcases List.mem_append.mp hs with z | z
      · exact h s (List.dropLast_subset _ z)
      · rw [List.mem_singleton.mp z]
        exact hp
    · rcases List.mem_append.mp hs with z | z
      · exact h s z
      · rw [List.mem_singleton.mp z]
        exact hp
theorem grp_snoc (ps : List Plc) (p : Plc) : grp [] 0 (ps ++ [p]) = grp1 (grp [] 0 ps) ps.length p := by
  rw [grp_app, Nat.zero_add]
  rfl
theorem grp_len : ∀ (ps : List Plc) (F : List Spn) (n : Nat), (grp F n ps).length ≤ F.length + ps.length
  | [], F, n => Nat.le_refl _
  | p :: r, F, n => by
    have h1 := grp_len r (grp1 F n p) (n + 1)
    have h2 := grp1_len F n p
    show (grp (grp1 F n p) (n + 1) r).length ≤ _
    rw [List.length_cons]
    omega
theorem grp_ok : ∀ (ps : List Plc) (F : List Spn) (n : Nat), (∀ s ∈ F, PyData.strOk s.side = true) → (∀ p ∈ ps, PyData.strOk p.side = true) → ∀ s ∈ grp F n ps, PyData.strOk s.side = true
  | [], F, n, h, _ => h
  | p :: r, F, n, h, hp => grp_ok r (grp1 F n p) (n + 1) (grp1_ok F n p h (hp p List.mem_cons_self)) fun q hq => hp q (List.mem_cons_of_mem _ hq)
def spSpanL : Sp := fun vs H Q _ => ∃ (l : Addr) (ps : List Plc), vs = [.ref l] ∧ ListAt H l (ps.map plcD) ∧ ps.length ≤ 20000 ∧ (∀ p ∈ ps, PyData.strOk p.side = true) ∧
  ∀ (q : Addr) (H' : Hp), Same H H' → ListAt H' q ((grp [] 0 ps).map spnD) → Q (.ref q) H'
section
variable {P : Program} {w : World} {K : PySem.W.Frag} {mg : Str → Option Value} {base : Heap}
theorem c_span_list (T : Txt K mg) (D : DefAt K mg "_law_span_list" s__law_span_list ["_law_places"]) : CalG P w K mg base 1 "_law_span_list" ["_law_places"] spSpanL := by
  refine calOk D sc__law_span_list (fun xs H Q E h => ?_) (fun f cdv A out s H xs Q E hgd hr h => ?_)
  · obtain ⟨l, ps, rfl, _⟩ := h
    rfl
  · obtain ⟨l, ps, rfl, ⟨xs, hl, hX⟩, hn, hm, k⟩ := h
    have nd := sc__law_span_list.nd
    refine ⟨_, (pss_cons (ps_set (i := 1) nd rfl (.inl rfl) (pe_lst pa_nil))
      (pss_cons (ps_for PassesOwn.never rfl (pi_enum (by rfl) T.enumerate (pa_cons (pv 0) pa_nil)) (pg_tup (by rfl) (pgs_cons (pg_name (i := 2) nd rfl (.inl rfl)) (pgs_cons (pg_name (i := 3) nd rfl (.inl rfl)) pgs_nil))) (pss_one (ps_if (PW.pt (pw_or (pt_cmpR (op_eqD hr.units) (pv 1) (pe_lst pa_nil) (nomark _)) (pw_or1 (pt_cmpR (op_neD hr.units) (pe_slice sl_tupT (pe_ix ix_list (pv 1) (pe_un un_neg pe_int) (fun _ _ => rfl)) po_none (po_some pe_int)) (pe_slice sl_tupT (pv 3) po_none (po_some pe_int)) (nomark _))))) (pss_one (ps_expr (pe_bm PySem.F.plainAttrs_list PySem.F.slot_list_append PySem.F.type_list_append mt_append (pv 1) (pa_cons (pe_tup (pa_cons (pe_ix ix_tup (pv 3) pe_int (fun _ _ => rfl)) (pa_cons (pe_ix ix_tup (pv 3) pe_int (fun _ _ => rfl)) (pa_cons (pv 2) (pa_cons (pe_op op_add (pv 2) pe_int) pa_nil))))) pa_nil)))) (pss_one (ps_asg (pe_tup (pa_cons (pe_ix ix_tup (pv 3) pe_int (fun _ _ => rfl)) (pa_cons (pe_ix ix_tup (pv 3) pe_int (fun _ _ => rfl)) (pa_cons (pe_ix ix_tup (pe_ix ix_list (pv 1) (pe_un un_neg pe_int) (fun _ _ => rfl)) pe_int (fun _ _ => rfl)) (pa_cons (pe_op op_add (pv 2) pe_int) pa_nil))))) (pg_sub (pv 1) (pe_un un_neg pe_int) set_list))))))
      (pss_one (ps_ret (pv 1))))), ?_⟩
    have lx := hX.len
    rw [List.length_map] at lx
    refine ⟨(by show 0 ≤ sizeLine; decide), fun q nq => ?_⟩
    have s1 := same_new (o := .lst []) nq
    refine ⟨_, rfl, l, xs, rfl, SqL.of (s1 _ _ hl), ?_⟩
    refine for_it (walk_enum (K := K) (a := l) (xs := xs)) (fun i σ H' => ∃ (v2 v3 : Option V) (ys : List V), σ = [some (.ref l), some (.ref q), v2, v3] ∧ Same H H' ∧
      H' q = some (.lst ys) ∧ TxAll H' ys ((grp [] 0 (ps.take i)).map spnD)) ?_ ?_ ?_ ?_
    · exact ⟨_, _, [], rfl, s1, upd_same, .nil⟩
    · rintro i σ H' _ ⟨_, _, _, _, s2, _⟩
      exact SqL.of (s2 _ _ hl)
    · rintro i y σ H2 H3 hi ⟨v2, v3, ys, rfl, s2, hq, hY⟩ ⟨Tp, x1, x2, rfl, nT, rfl, e1, e2⟩
      cases e1
      have s3 := same_new (o := .tup [.int (i : Nat), x2]) nT
      obtain ⟨d, hd, hx⟩ := hX.get i x2 e2
      rw [List.getElem?_map] at hd
      obtain ⟨p, hp, rfl⟩ := Option.map_eq_some_iff.mp hd
      have hps := hm p (List.mem_of_getElem? hp)
      obtain ⟨a, wv, rfl, ha, hw⟩ := (hx.grow (s2.trans s3)).plc
      have hxg := hx.grow (s2.trans s3)
      refine ⟨Tp, _, rfl, SqT.of upd_same, rfl, _, _, rfl, _, _, rfl, rfl, ?_⟩
      have hq3 := s3 _ _ hq
      replace hY := hY.grow s3
      have step : grp [] 0 (ps.take (i + 1)) = grp1 (grp [] 0 (ps.take i)) i p := by
        rw [take_one hp, grp_snoc, List.length_take, Nat.min_eq_left (by omega)]
      have fok := grp_ok (ps.take i) [] 0 (fun _ z => nomatch z) fun p hp => hm p (List.mem_of_mem_take hp)
      have flen : (grp [] 0 (ps.take i)).length ≤ i := by
        have := grp_len (ps.take i) [] 0
        rw [List.length_take] at this
        simp at this
        omega
      generalize grp [] 0 (ps.take i) = F at *
      have ly := hY.len
      rw [List.length_map] at ly
      generalize upd H2 Tp (.tup [.int (i : Nat), .ref a]) = H3 at *
      have s23 := s2.trans s3
      rw [step]
      have n16 : ys.length < sizeLine := Nat.lt_of_lt_of_le (show ys.length < 20001 by omega) (by decide)
      refine a_if1 (fun b H' => b = !(match F.getLast? with | none => false | some s => decide (s.lev = p.lev ∧ s.side = p.side)) ∧ Same H3 H') (fun Q' kQ => ?_) ?_ ?_
      · refine ⟨_, rfl, (by show 0 ≤ sizeLine; decide), fun p1 n1 => ?_⟩
        have s4 := same_new (o := .lst []) n1
        refine ⟨.list (F.map spnD), .list [], .lst (SqL.of (s4 _ _ hq3)) ((hY.grow s4).dx.dp (spns_flat F fok).2.2), .lst (SqL.of upd_same) .nil, shaped_spns fok, (by decide +kernel), ?_⟩
        rcases List.eq_nil_or_concat F with z | ⟨F0, t, z⟩
        · subst z
          exact ⟨true, congrArg V.bl (eqv_nilL _), kQ _ _ ⟨rfl, s4⟩⟩
        rw [List.concat_eq_append] at z
        subst z
        refine ⟨false, congrArg V.bl (by rw [eqv_nilL]; simp), ?_⟩
        obtain ⟨zs, y, rfl⟩ : ∃ zs y, ys = zs ++ [y] := by
          rcases List.eq_nil_or_concat ys with z | ⟨i, y, z⟩
          · rw [z] at ly
            simp at ly
          · exact ⟨i, y, by rw [z, List.concat_eq_append]⟩
        have hy : Tx H3 y (spnD t) := by
          have lz : zs.length = F0.length := by simpa using ly
          obtain ⟨dy, e1, hy⟩ := hY.get zs.length y (by simp)
          have : dy = spnD t := by
            rw [lz, List.map_append, List.getElem?_append_right (by rw [List.length_map]; exact Nat.le_refl _), List.length_map, Nat.sub_self] at e1
            exact (Option.some.inj e1).symm
          rw [← this]
          exact hy
        have htk := fok t (by simp)
        refine ⟨_, rfl, _, rfl, _, _, _, _, rfl, rfl, SqL.of (s4 _ _ hq3), atI_last zs y, _, rfl, _, hy.grow s4, fun v2 H4 s5 hv2 => ?_⟩
        rw [cut2] at hv2
        refine ⟨_, rfl, _, rfl, _, hxg.grow (s4.trans s5), fun v3 H5 s6 hv3 => ?_⟩
        rw [cut2] at hv3
        refine ⟨.tuple [.int (t.lev : Nat), .str t.side], .tuple [.int (p.lev : Nat), .str p.side], (hv2.grow s6).dx.dp (by simp [PyData.hasDict, PyData.hasDictAll]), hv3.dx.dp (by simp [PyData.hasDict, PyData.hasDictAll]), shaped_key _ htk, shaped_key _ hps, ?_⟩
        refine ⟨_, congrArg (fun b => V.bl (!b)) (eqv_key _ _ _ _), kQ _ _ ⟨?_, (s4.trans s5).trans s6⟩⟩
        rw [List.getLast?_append]
        rfl
      · rintro H4 ⟨h4, s4⟩
        have hq4 := s4 _ _ hq3
        have ha4 := s4 _ _ ha
        refine ⟨_, rfl, .inl ⟨rfl, _, SqL.of hq4⟩, _, rfl, _, _, _, _, rfl, rfl, SqT.of ha4, atI_nat (j := 0) rfl, _, rfl, _, _, _, _, rfl, rfl, SqT.of ha4, atI_nat (j := 1) rfl, _, rfl, _, rfl, _, _, rfl, rfl, (by show 4 ≤ sizeLine; decide), fun p5 n5 => ?_⟩
        have s5 := same_new (o := .tup [.int (p.lev : Nat), .str p.side, .int (i : Nat), .int ((i : Nat) + 1 : Int)]) n5
        have hq5 := s5 _ _ hq4
        have kp : TupK (upd H4 p5 (.tup [.int (p.lev : Nat), .str p.side, .int (i : Nat), .int ((i : Nat) + 1 : Int)])) (upd (upd H4 p5 (.tup [.int (p.lev : Nat), .str p.side, .int (i : Nat), .int ((i : Nat) + 1 : Int)])) q (.lst (ys ++ [.ref p5]))) := tupk_put hq5
        refine ⟨q, ys, _, rfl, rfl, hq5, n16, ?_⟩
        refine ⟨_, _, ys ++ [.ref p5], rfl, Same.put ((s23.trans s4).trans s5) nq, upd_same, ?_⟩
        have eg : grp1 F i p = F ++ [⟨p.lev, p.side, i, i + 1⟩] := by
          unfold grp1
          cases hl : F.getLast? with
          | none =>
            rw [List.getLast?_eq_none_iff.mp hl]
            rfl
          | some t =>
            rw [hl] at h4
            have h4 : true = !decide (t.lev = p.lev ∧ t.side = p.side) := h4
            by_cases c : t.lev = p.lev ∧ t.side = p.side
            · rw [decide_eq_true c] at h4
              cases h4
            · exact if_neg c
        rw [eg, List.map_append]
        exact ((hY.grow (s4.trans s5)).keep kp).append (.cons (.tup (kp _ _ upd_same) (.cons (.int _) (.cons (.str _) (.cons (.int _) (.cons (.int _) .nil))))) .nil)
      · rintro H4 ⟨h4, s4⟩
        have hq4 := s4 _ _ hq3
        have ha4 := s4 _ _ ha
        obtain ⟨F0, t, rfl, ht⟩ : ∃ F0 t, F = F0 ++ [t] ∧ (t.lev = p.lev ∧ t.side = p.side) := by
          rcases List.eq_nil_or_concat F with z | ⟨F0, t, z⟩
          · subst z
            cases h4
          · rw [List.concat_eq_append] at z
            subst z
            refine ⟨F0, t, rfl, ?_⟩
            rw [List.getLast?_append] at h4
            have h4 : false = !decide (t.lev = p.lev ∧ t.side = p.side) := h4
            by_cases c : t.lev = p.lev ∧ t.side = p.side
            · exact c
            · rw [decide_eq_false c] at h4
              cases h4
        obtain ⟨zs, y, rfl⟩ : ∃ zs y, ys = zs ++ [y] := by
          rcases List.eq_nil_or_concat ys with z | ⟨i, y, z⟩
          · rw [z] at ly
            simp at ly
          · exact ⟨i, y, by rw [z, List.concat_eq_append]⟩
        have lz : zs.length = F0.length := by simpa using ly
        have hy : Tx H3 y (spnD t) := by
          obtain ⟨dy, e1, hy⟩ := hY.get zs.length y (by simp)
          have : dy = spnD t := by
            rw [lz, List.map_append, List.getElem?_append_right (by rw [List.length_map]; exact Nat.le_refl _), List.length_map, Nat.sub_self] at e1
            exact (Option.some.inj e1).symm
          rw [← this]
          exact hy
        obtain ⟨b, rfl, hb⟩ := (hy.grow s4).spn
        refine ⟨_, rfl, _, _, _, _, rfl, rfl, SqT.of ha4, atI_nat (j := 0) rfl, _, rfl, _, _, _, _, rfl, rfl, SqT.of ha4, atI_nat (j := 1) rfl, _, rfl, _, rfl, _, _, _, _, rfl, rfl, SqL.of hq4, atI_last zs _, _, _, _, _, rfl, rfl, SqT.of hb, atI_nat (j := 2) rfl, _, rfl, _, _, rfl, rfl, (by show 4 ≤ sizeLine; decide), fun p5 n5 => ?_⟩
        have s5 := same_new (o := .tup [.int (p.lev : Nat), .str p.side, .int (t.beg : Nat), .int ((i : Nat) + 1 : Int)]) n5
        have hq5 := s5 _ _ hq4
        have kp : TupK (upd H4 p5 (.tup [.int (p.lev : Nat), .str p.side, .int (t.beg : Nat), .int ((i : Nat) + 1 : Int)])) (upd (upd H4 p5 (.tup [.int (p.lev : Nat), .str p.side, .int (t.beg : Nat), .int ((i : Nat) + 1 : Int)])) q (.lst (zs ++ [.ref p5]))) := tupk_put hq5
        have ix : ixN (zs ++ [V.ref b]).length (-1) = some zs.length := by
          unfold ixN
          rw [show (zs ++ [V.ref b]).length = zs.length + 1 by simp, if_neg (by decide), if_pos (by omega)]
          congr 1
          omega
        refine ⟨_, rfl, _, rfl, q, _, _, zs.length, rfl, rfl, hq5, ix, ?_⟩
        rw [show (zs ++ [V.ref b]).set zs.length (.ref p5) = zs ++ [.ref p5] by simp]
        refine ⟨_, _, zs ++ [.ref p5], rfl, Same.put ((s23.trans s4).trans s5) nq, upd_same, ?_⟩
        have eg : grp1 (F0 ++ [t]) i p = F0 ++ [⟨p.lev, p.side, t.beg, i + 1⟩] := by
          unfold grp1
          rw [List.getLast?_append, List.dropLast_concat]
          exact if_pos ht
        have hZ : TxAll H3 zs (F0.map spnD) := by
          have := TxAll.take zs.length hY
          rw [List.take_left, List.map_append, lz, ← List.length_map (f := spnD), List.take_left] at this
          exact this
        rw [eg, List.map_append]
        exact ((hZ.grow (s4.trans s5)).keep kp).append (.cons (.tup (kp _ _ upd_same) (.cons (.int _) (.cons (.str _) (.cons (.int _) (.cons (.int _) .nil))))) .nil)
    · rintro σ H2 ⟨v2, v3, ys, rfl, s2, hq, hY⟩
      rw [lx, List.take_length] at hY
      exact ⟨_, rfl, k q H2 s2 ⟨ys, hq, hY⟩⟩
end
end G

set_option Elab.async false
set_option linter.all false
set_option maxRecDepth 100000
set_option maxHeartbeats 4000000
namespace G
open PySem PySem.Spec PyProof.Rows L2
theorem log_of {x : Int} {n : Nat} (h : x.natAbs < 2 ^ n) (hn : n ≤ 1200) (h0 : 0 < n) : x.natAbs.log2 < 1200 := by
  by_cases z : x.natAbs = 0
  · rw [z]
    decide
  · exact Nat.lt_of_lt_of_le ((Nat.log2_lt z).mpr h) hn
theorem nice_int {i : Int} (h0 : -1000000 ≤ i) (h1 : i ≤ 1000000) : nice (.int i) = true := by
  have e : (2 : Nat) ^ 20 = 1048576 := by decide
  have := log_of (x := i) (n := 20) (by omega) (by decide) (by decide)
  simp only [nice, this, decide_true]
structure Tame (p : Plc) : Prop where
  lev : p.lev ≤ 5
  side : p.side = "left" ∨ p.side = "right"
  idx : p.idx ≤ 7
  few : p.path.length ≤ 5
  low : ∀ c ∈ p.path, c < 4
theorem tame_of {k : Nat} (hk : k = 2 ∨ k = 3) {gs : List (Nat × Nat)} (hsm : Small gs) {n : Nat} {p : Plc} (h : (places k gs)[n]? = some p) : Tame p := by
  obtain ⟨s, _, _, e1, e2, h1, h2, h3, h4, g, hg, hc⟩ := place_facts (by omega) h
  have hl : p.lev < gs.length := (List.getElem?_eq_some_iff.mp hg).1
  obtain ⟨l5, l7⟩ := hsm
  obtain ⟨g7, g8⟩ := l7 g (List.mem_of_getElem? hg)
  refine ⟨by omega, ?_, ?_, by rw [h4, dig_len]; omega, fun c hc => ?_⟩
  · rcases hc with ⟨c, _⟩ | ⟨c, _⟩
    · exact .inl c
    · exact .inr c
  · rcases hc with ⟨_, c⟩ | ⟨_, c⟩ <;> omega
  · rw [h4] at hc
    have := dig_lt (K := k) (by omega) _ _ c hc
    omega
theorem ints_nice : ∀ cs : List Nat, (∀ c ∈ cs, c < 4) → niceAll (cs.map fun c => PyData.int (c : Nat)) = true ∧ PyData.depthAll (cs.map fun c => PyData.int (c : Nat)) = 0 ∧ PyData.bulkAll (cs.map fun c => PyData.int (c : Nat)) = cs.length
  | [], _ => ⟨rfl, by simp [PyData.depthAll], rfl⟩
  | c :: r, h => by
    obtain ⟨h1, h2, h3⟩ := ints_nice r fun t ht => h t (List.mem_cons_of_mem _ ht)
    have h0 := h c List.mem_cons_self
    refine ⟨?_, ?_, ?_⟩
    · simp only [List.map_cons, niceAll, h1, Bool.and_true]
      exact nice_int (by omega) (by omega)
    · simp only [List.map_cons, PyData.depthAll, PyData.depth, h2]
      rfl
    · simp only [List.map_cons, PyData.bulkAll, PyData.bulk, h3, List.length_cons]
      omega
theorem side_nice {s : Str} (h : s = "left" ∨ s = "right") : nice (.str s) = true ∧ PyData.bulk (.str s) ≤ 5 ∧ PyData.depth (.str s) = 0 := by
  rcases h with rfl | rfl
  · exact ⟨by decide +kernel, by decide +kernel, by simp [PyData.depth]⟩
  · exact ⟨by decide +kernel, by decide +kernel, by simp [PyData.depth]⟩
theorem Tame.show_ {p : Plc} (t : Tame p) : nice (plcD p) = true ∧ (plcD p).depth ≤ 2 ∧ (plcD p).bulk ≤ 30 := by
  obtain ⟨t1, t2, t3, t4, t5⟩ := t
  obtain ⟨a1, a2, a3⟩ := ints_nice p.path t5
  obtain ⟨b1, b2, b3⟩ := side_nice t2
  have c1 := nice_int (i := (p.lev : Nat)) (by omega) (by omega)
  have c2 := nice_int (i := (p.idx : Nat)) (by omega) (by omega)
  refine ⟨?_, ?_, ?_⟩
  · unfold plcD
    rw [nice, niceAll, niceAll, niceAll, niceAll, niceAll, c1, b1, c2]
    show (nice (.tuple _) && true) = true
    rw [nice, a1]
    rfl
  · simp only [plcD, PyData.depth, PyData.depthAll, a2]
    omega
  · have e : (plcD p).bulk = 0 + 1 + (PyData.bulk (.str p.side) + 1 + (0 + 1 + (PyData.bulkAll (p.path.map fun c => PyData.int (c : Nat)) + 1 + 0))) := rfl
    rw [e, a3]
    omega
theorem Tame.shw {p : Plc} (t : Tame p) : Shw (plcD p) := by
  obtain ⟨a, b, c⟩ := t.show_
  exact G.shw a (by omega) (by omega)
theorem span_fin {K : Nat} : ∀ (bs : List Blk) (a : Nat) (s : Spn), s ∈ spansB K a bs → s.fin ≤ a + total K bs
  | [], _, _, h => nomatch h
  | b :: r, a, s, h => by
    have e : total K (b :: r) = b.sz K + total K r := rfl
    rw [spansB] at h
    split at h
    · rcases List.mem_cons.mp h with rfl | h
      · show a + b.sz K ≤ _
        omega
      · have := span_fin r _ s h
        omega
    · have := span_fin r _ s h
      omega
theorem spns_nice : ∀ F : List Spn, (∀ s ∈ F, s.lev ≤ 5 ∧ (s.side = "left" ∨ s.side = "right") ∧ s.beg ≤ 20000 ∧ s.fin ≤ 20000) → niceAll (F.map spnD) = true ∧ PyData.depthAll (F.map spnD) ≤ 1 ∧ PyData.bulkAll (F.map spnD) ≤ 10 * F.length
  | [], _ => ⟨rfl, by simp [PyData.depthAll], by simp [PyData.bulkAll]⟩
  | s :: r, h => by
    obtain ⟨h1, h2, h3⟩ := spns_nice r fun t ht => h t (List.mem_cons_of_mem _ ht)
    obtain ⟨g1, g2, g3, g4⟩ := h s List.mem_cons_self
    obtain ⟨b1, b2, b3⟩ := side_nice g2
    have c1 := nice_int (i := (s.lev : Nat)) (by omega) (by omega)
    have c2 := nice_int (i := (s.beg : Nat)) (by omega) (by omega)
    have c3 := nice_int (i := (s.fin : Nat)) (by omega) (by omega)
    refine ⟨?_, ?_, ?_⟩
    · rw [List.map_cons, niceAll, h1, Bool.and_true]
      unfold spnD
      rw [nice, niceAll, niceAll, niceAll, niceAll, niceAll, c1, b1, c2, c3]
      rfl
    · simp only [List.map_cons, spnD, PyData.depthAll, PyData.depth]
      omega
    · have e : PyData.bulkAll ((s :: r).map spnD) = (0 + 1 + (PyData.bulk (.str s.side) + 1 + (0 + 1 + (0 + 1 + 0)))) + 1 + PyData.bulkAll (r.map spnD) := rfl
      rw [e, List.length_cons]
      omega
theorem spans_shw {k : Nat} (hk : k = 2 ∨ k = 3) {gs : List (Nat × Nat)} (hsm : Small gs) : Shw (.tuple ((spansB k 0 (blocks gs)).map spnD)) := by
  have few := places_few hk hsm
  have l5 := hsm.1
  have lb : (blocks gs).length ≤ 10 := by
    unfold blocks
    rw [List.length_append, List.length_reverse, (lefts_len _ _).1, (lefts_len _ _).2]
    omega
  have ls := spansB_len k (blocks gs) 0
  obtain ⟨a, b, c⟩ := spns_nice (spansB k 0 (blocks gs)) fun s hs => by
    have h1 := span_fin _ _ s hs
    have h2 := spans_ge _ _ s hs
    have e : total k (blocks gs) = (places k gs).length := (placesB_len k (blocks gs)).symm
    obtain ⟨b, hb, q1, _⟩ := span_of _ _ s hs
    obtain ⟨g, hg, _⟩ := blocks_mem hb
    have := (List.getElem?_eq_some_iff.mp hg).1
    exact ⟨by omega, span_side hs, by omega, by omega⟩
  refine shw ?_ ?_ ?_
  · rw [nice]
    exact a
  · simp only [PyData.depth]
    omega
  · show PyData.bulkAll _ ≤ 10000
    omega
theorem ahead_show {ps : List Plc} (h : ∀ (n : Nat) (p : Plc), ps[n]? = some p → Tame p) (n : Nat) : (nice (aheadD ps n) = true ∧ (aheadD ps n).depth ≤ 2 ∧ (aheadD ps n).bulk ≤ 30) ∧ (nice (behindD ps n) = true ∧ (behindD ps n).depth ≤ 2 ∧ (behindD ps n).bulk ≤ 30) := by
  have none_ : nice .none = true ∧ PyData.depth .none ≤ 2 ∧ PyData.bulk .none ≤ 30 := ⟨rfl, by simp [PyData.depth], by decide⟩
  refine ⟨?_, ?_⟩
  · unfold aheadD
    split
    · exact none_
    · cases e : ps[n - 1]? with
      | none => exact none_
      | some p => exact (h _ _ e).show_
  · unfold behindD
    cases e : ps[n + 1]? with
    | none => exact none_
    | some p => exact (h _ _ e).show_
theorem told_shw {a b : PyData} {i j : Int} (ha : nice a = true ∧ a.depth ≤ 2 ∧ a.bulk ≤ 30) (hb : nice b = true ∧ b.depth ≤ 2 ∧ b.bulk ≤ 30) (hi : -1000000 ≤ i ∧ i ≤ 1000000) (hj : -1000000 ≤ j ∧ j ≤ 1000000) :
    Shw (.list [.tuple [a, b], .tuple [.int i, .int j]]) := by
  obtain ⟨a1, a2, a3⟩ := ha
  obtain ⟨b1, b2, b3⟩ := hb
  have c1 := nice_int hi.1 hi.2
  have c2 := nice_int hj.1 hj.2
  refine shw ?_ ?_ ?_
  · rw [nice, niceAll, niceAll, niceAll, nice, nice, niceAll, niceAll, niceAll, niceAll, niceAll, niceAll, a1, b1, c1, c2]
    rfl
  · simp only [PyData.depth, PyData.depthAll]
    omega
  · show (a.bulk + 1 + (b.bulk + 1 + 0)) + 1 + ((0 + 1 + (0 + 1 + 0)) + 1 + 0) ≤ 10000
    omega
theorem RowAt.of {d : Addr} {H : Hp} {v : V} {fs : List (Int × Int)} (h : Dx (hide d H) v (rowD fs)) : RowAt H v fs := h.seen.rowOf
def natF (f : Int × Int) : Nat × Nat := (f.1.toNat, f.2.toNat)
theorem row_nat {fs : List (Int × Int)} (h : ∀ f ∈ fs, Side 3 f) : rowN (fs.map natF) = fs := by
  unfold rowN
  rw [List.map_map]
  refine (List.map_congr_left fun f hf => ?_).trans (List.map_id _)
  obtain ⟨a, _, c, _⟩ := h f hf
  show ((f.1.toNat : Int), (f.2.toNat : Int)) = f
  rw [Int.toNat_of_nonneg a, Int.toNat_of_nonneg c]
theorem small_nat {fs : List (Int × Int)} (h : ∀ f ∈ fs, Side 3 f) (hl : fs.length ≤ 5) : Small (fs.map natF) := by
  refine ⟨by rw [List.length_map]; exact hl, fun g hg => ?_⟩
  obtain ⟨f, hf, rfl⟩ := List.mem_map.mp hg
  obtain ⟨a, b, c, d⟩ := h f hf
  show f.1.toNat ≤ 7 ∧ f.2.toNat ≤ 7
  omega
def spArity : Sp := fun vs H Q _ => ∃ (d : Addr) (c : Nat), vs = [.ref d, .int (c : Int)] ∧ DiceAt H d ∧ (c = 2 ∨ c = 3) ∧ ∀ H', Mv d H H' → Q (.bl true) H'
section
variable {P : Program} {w : World} {K : PySem.W.Frag} {mg : Str → Option Value} {base : Heap}
theorem c_right (T : Txt K mg) (C__law_some_row : CalG P w K mg base 3 "_law_some_row" ["_law_dice_here", "_law_levels", "_law_high"] spSomeRow) (C__law_all_places : CalG P w K mg base 4 "_law_all_places" ["_law_arity", "_law_row"] spAll)
    (C_spans : CalG P w K mg base 8 "spans" ["arity", "row"] spSpans) (C__law_span_list : CalG P w K mg base 1 "_law_span_list" ["_law_places"] spSpanL) (C_place_of : CalG P w K mg base 11 "place_of" ["arity", "row", "number"] spPlaceOf)
    (C_number_of : CalG P w K mg base 9 "number_of" ["arity", "row", "place"] spNumberOf) (C_beside : CalG P w K mg base 10 "beside" ["arity", "row", "place"] spBeside) (C_outward : CalG P w K mg base 11 "outward" ["arity", "row", "number"] spOutward)
    (D : DefAt K mg "_law_right" s__law_right ["_law_dice_here", "_law_arity"]) : CalG P w K mg base 12 "_law_right" ["_law_dice_here", "_law_arity"] spArity := by
  refine calOk D sc__law_right (fun xs H Q E h => ?_) (fun f cdv A out s H xs Q E hgd hr h => ?_)
  · obtain ⟨d, c, rfl, _⟩ := h
    rfl
  · obtain ⟨d, c, rfl, hd, hc, k⟩ := h
    have nd := sc__law_right.nd
    refine ⟨_, (pss_cons (ps_set (i := 2) nd rfl (.inl rfl) (pe_k C__law_some_row hgd hr (by decide) rfl (pa_cons (pv 0) (pa_cons (pe_ifExp (pt_cmpR op_eq (pv 1) pe_int (nomark _)) pe_int pe_int) (pa_cons pe_int pa_nil)))))
      (pss_cons (ps_set (i := 3) nd rfl (.inl rfl) (pe_k C__law_all_places hgd hr (by decide) rfl (pa_cons (pv 1) (pa_cons (pv 2) pa_nil))))
      (pss_cons (ps_if (pt_cmpR op_ne (pe_callB (call_repr hgd hr.units) (by rfl) T.repr (by decide +kernel) (pa_cons (pe_k C_spans hgd hr (by decide) rfl (pa_cons (pv 1) (pa_cons (pv 2) pa_nil))) pa_nil)) (pe_callB (call_repr hgd hr.units) (by rfl) T.repr (by decide +kernel) (pa_cons (pe_callTy call_tuple_of (by rfl) T.tuple (by decide +kernel) (pa_cons (pe_k C__law_span_list hgd hr (by decide) rfl (pa_cons (pv 3) pa_nil)) pa_nil)) pa_nil)) (nomark _)) (pss_one (ps_ret pe_bl)) pss_nil)
      (pss_cons (ps_for PassesOwn.never rfl (pi_enum (by rfl) T.enumerate (pa_cons (pv 3) pa_nil)) (pg_tup (by rfl) (pgs_cons (pg_name (i := 4) nd rfl (.inl rfl)) (pgs_cons (pg_name (i := 5) nd rfl (.inl rfl)) pgs_nil))) (pss_cons (ps_if (PW.pt (pw_or (pt_cmpR op_ne (pe_callB (call_repr hgd hr.units) (by rfl) T.repr (by decide +kernel) (pa_cons (pe_k C_place_of hgd hr (by decide) rfl (pa_cons (pv 1) (pa_cons (pv 2) (pa_cons (pv 4) pa_nil)))) pa_nil)) (pe_callB (call_repr hgd hr.units) (by rfl) T.repr (by decide +kernel) (pa_cons (pv 5) pa_nil)) (nomark _)) (pw_or1 (pt_cmpR op_ne (pe_callB (call_repr hgd hr.units) (by rfl) T.repr (by decide +kernel) (pa_cons (pe_k C_number_of hgd hr (by decide) rfl (pa_cons (pv 1) (pa_cons (pv 2) (pa_cons (pv 5) pa_nil)))) pa_nil)) (pe_callB (call_repr hgd hr.units) (by rfl) T.repr (by decide +kernel) (pa_cons (pv 4) pa_nil)) (nomark _))))) (pss_one (ps_ret pe_bl)) pss_nil)
        (pss_cons (ps_set (i := 6) nd rfl (.inl rfl) (pe_ifExp (pt_cmpR op_gt (pv 4) pe_int (nomark _)) (pe_ix ix_list (pv 3) (pe_op op_sub (pv 4) pe_int) (fun _ _ => rfl)) pe_non))
        (pss_cons (ps_set (i := 7) nd rfl (.inl rfl) (pe_ifExp (pt_cmpR op_lt (pe_op op_add (pv 4) pe_int) (pe_callB call_len_seq (by rfl) T.len (by decide +kernel) (pa_cons (pv 3) pa_nil)) (nomark _)) (pe_ix ix_list (pv 3) (pe_op op_add (pv 4) pe_int) (fun _ _ => rfl)) pe_non))
        (pss_cons (ps_set (i := 8) nd rfl (.inl rfl) (pe_lst (pa_cons (pe_k C_beside hgd hr (by decide) rfl (pa_cons (pv 1) (pa_cons (pv 2) (pa_cons (pv 5) pa_nil)))) (pa_cons (pe_k C_outward hgd hr (by decide) rfl (pa_cons (pv 1) (pa_cons (pv 2) (pa_cons (pv 4) pa_nil)))) pa_nil))))
        (pss_one (ps_if (pt_cmpR op_ne (pe_callB (call_repr hgd hr.units) (by rfl) T.repr (by decide +kernel) (pa_cons (pv 8) pa_nil)) (pe_callB (call_repr hgd hr.units) (by rfl) T.repr (by decide +kernel) (pa_cons (pe_lst (pa_cons (pe_tup (pa_cons (pv 6) (pa_cons (pv 7) pa_nil))) (pa_cons (pe_tup (pa_cons (pe_ix ix_tup (pv 5) pe_int (fun _ _ => rfl)) (pa_cons (pe_callB (call_min2 rfl) (by rfl) T.min (by decide +kernel) (pa_cons (pv 4) (pa_cons (pe_op op_sub (pe_op op_sub (pe_callB call_len_seq (by rfl) T.len (by decide +kernel) (pa_cons (pv 3) pa_nil)) pe_int) (pv 4)) pa_nil))) pa_nil))) pa_nil))) pa_nil)) (nomark _)) (pss_one (ps_ret pe_bl)) pss_nil)))))))
      (pss_one (ps_ret pe_bl)))))), ?_⟩
    -- row
    refine a_set (fun v H' => ∃ gs, RowAt H' v (rowN gs) ∧ Small gs ∧ rowB (rowD (rowN gs)) = true ∧ Mv d H H') (fun Q' kQ => ?_) ?_
    · have fin : ∀ (n : Int), n ≤ 5 → ∀ (p : Addr) (fs : List (Int × Int)) (H' : Hp), (∀ f ∈ fs, Side 3 f) → (fs.length : Int) ≤ n → cutF fs = fs → Mv d H H' → Dx (hide d H') (.ref p) (rowD fs) → Q' (.ref p) H' := fun n hn p fs H' hs hl hcut m hp => by
        refine kQ _ _ ⟨fs.map natF, ?_, small_nat hs (by omega), ?_, m⟩
        · rw [row_nat hs]
          exact .of hp
        · rw [row_nat hs]
          exact rowB_D (side3 hs) (by omega) hcut
      refine ⟨_, rfl, _, rfl, rfl, _, rfl, ite2 (fun q => ?_) (fun q => ?_)⟩
      · exact ⟨d, 5, 3, rfl, hd, by decide, by decide, by decide, by decide, fin 5 (by decide)⟩
      · exact ⟨d, 4, 3, rfl, hd, by decide, by decide, by decide, by decide, fin 4 (by decide)⟩
    rintro x H1 ⟨gs, hx, hsm, hb, m1⟩
    -- places
    refine a_set (fun v H' => ∃ l, v = .ref l ∧ ListAt H' l ((places c gs).map plcD) ∧ Same H1 H') (fun Q' kQ => ?_) ?_
    · exact ⟨_, rfl, _, rfl, c, x, gs, rfl, hc, hx, hsm, fun q H' s h => kQ _ _ ⟨q, rfl, h, s⟩⟩
    rintro _ H2 ⟨l, rfl, ⟨xs, hl, hX⟩, s2⟩
    have lx := hX.len
    rw [List.length_map] at lx
    have few := places_few hc hsm
    replace hx := hx.grow s2
    have tame : ∀ (n : Nat) (p : Plc), (places c gs)[n]? = some p → Tame p := fun n p h => tame_of hc hsm h
    have sok : ∀ p ∈ places c gs, PyData.strOk p.side = true := fun p hp => by
      obtain ⟨n, hn⟩ := List.mem_iff_getElem?.mp hp
      exact side_ok (tame n p hn).side
    -- spans
    refine a_if (fun b H' => b = false ∧ Same H2 H') (fun Q' kQ => ?_) (fun H' h => nomatch h.1) ?_
    · refine ⟨_, rfl, _, rfl, c, x, gs, rfl, hc, hx, hsm, hb, fun v H3 s3 hv => ?_⟩
      refine ⟨_, _, rfl, hv.dx.dp (spans_shw hc hsm).noDict, spans_shw hc hsm, ?_⟩
      refine ⟨_, rfl, l, places c gs, rfl, ⟨xs, s3 _ _ hl, hX.grow s3⟩, by omega, sok, fun q H4 s4 ⟨ys, hq, hY⟩ => ?_⟩
      refine ⟨q, ys, rfl, .inl ⟨SqL.of hq, fun p np => ?_⟩⟩
      have s5 := same_new (o := .tup ys) np
      have hT : Tx (upd H4 p (.tup ys)) (.ref p) (.tuple ((spansB c 0 (blocks gs)).map spnD)) := by
        rw [grp_all] at hY
        exact .tup upd_same (hY.grow s5)
      refine ⟨_, _, rfl, hT.dx.dp (spans_shw hc hsm).noDict, spans_shw hc hsm, ?_⟩
      refine ⟨rfl, _, congrArg V.bl ?_, kQ _ _ ⟨rfl, (s3.trans s4).trans s5⟩⟩
      rw [decide_eq_true rfl]
      rfl
    rintro H3 ⟨_, s3⟩
    refine go_nx ?_
    have s23 := s2.trans s3
    refine ⟨_, rfl, l, xs, rfl, SqL.of (s3 _ _ hl), ?_⟩
    refine for_it (walk_enum (K := K) (a := l) (xs := xs)) (fun i σ H' => ∃ (v4 v5 v6 v7 v8 : Option V), σ = [some (.ref d), some (.int (c : Nat)), some x, some (.ref l), v4, v5, v6, v7, v8] ∧ Same H2 H') ?_ ?_ ?_ ?_
    · exact ⟨_, _, _, _, _, rfl, s3⟩
    · rintro i σ H' _ ⟨_, _, _, _, _, _, s4⟩
      exact SqL.of (s4 _ _ hl)
    · rintro i y σ H4 H5 hi ⟨v4, v5, v6, v7, v8, rfl, s4⟩ ⟨Tp, x1, x2, rfl, nT, rfl, e1, e2⟩
      cases e1
      have s5 := same_new (o := .tup [.int (i : Nat), x2]) nT
      obtain ⟨dd, hd2, hp0⟩ := hX.get i x2 e2
      rw [List.getElem?_map] at hd2
      obtain ⟨p, hp, rfl⟩ := Option.map_eq_some_iff.mp hd2
      have tp := tame i p hp
      have s45 := s4.trans s5
      refine ⟨Tp, _, rfl, SqT.of upd_same, rfl, _, _, rfl, _, _, rfl, rfl, ?_⟩
      replace hp0 := hp0.grow s45
      have hx5 := hx.grow s45
      have hl5 := s45 _ _ hl
      have hX5 := hX.grow s45
      generalize upd H4 Tp (.tup [.int (i : Nat), x2]) = H5 at *
      have hin : i < (places c gs).length := (List.getElem?_eq_some_iff.mp hp).1
      have shi : Shw (.int (i : Nat)) := shw (nice_int (by omega) (by omega)) (by simp [PyData.depth]) (Nat.zero_le _)
      refine a_if (fun b H' => b = false ∧ Same H5 H') (fun Q' kQ => ?_) (fun H' h => nomatch h.1) ?_
      · refine ⟨_, rfl, _, rfl, _, rfl, c, i, x, gs, p, rfl, hc, hx5, hsm, hb, hp, fun v H6 s6 hv => ?_⟩
        refine ⟨_, _, rfl, hv.dx.dp tp.shw.noDict, tp.shw, ?_⟩
        refine ⟨_, rfl, _, _, rfl, (hp0.grow s6).dx.dp tp.shw.noDict, tp.shw, rfl, false, congrArg V.bl ?_, ?_⟩
        · rw [decide_eq_true rfl]
          rfl
        refine ⟨_, rfl, _, rfl, _, rfl, c, i, x, x2, gs, p, rfl, hc, hx5.grow s6, hsm, hb, hp0.grow s6, hp, fun H7 s7 => ?_⟩
        refine ⟨_, _, rfl, .int _, shi, ?_⟩
        refine ⟨_, rfl, _, _, rfl, .int _, shi, rfl, false, congrArg V.bl ?_, kQ _ _ ⟨rfl, s6.trans s7⟩⟩
        rw [decide_eq_true rfl]
        rfl
      rintro H6 ⟨_, s6⟩
      refine go_nx ?_
      have hX6 := hX5.grow s6
      have hl6 := s6 _ _ hl5
      -- ahead, later
      refine a_set (fun v H' => Tx H' v (aheadD (places c gs) i) ∧ H6 = H') (fun Q' kQ => ?_) ?_
      · refine ⟨_, rfl, _, _, rfl, rfl, _, rfl, ite2 (fun q => ?_) (fun q => ?_)⟩
        · have q : (0 : Int) < (i : Int) := of_decide_eq_true q
          obtain ⟨p1, hp1⟩ : ∃ p1, (places c gs)[i - 1]? = some p1 := ⟨_, List.getElem?_eq_getElem (by omega)⟩
          obtain ⟨w1, hw1, tw1⟩ := hX6.getD (i - 1) (plcD p1) (by rw [List.getElem?_map, hp1]; rfl)
          have en : ((i : Int) - 1) = ((i - 1 : Nat) : Int) := by omega
          refine ⟨_, rfl, _, rfl, _, _, rfl, rfl, _, _, _, _, rfl, rfl, SqL.of hl6, (by rw [en]; exact atI_nat hw1), kQ _ _ ⟨?_, rfl⟩⟩
          unfold aheadD
          rw [if_neg (by omega), hp1]
          exact tw1
        · have q : ¬ (0 : Int) < (i : Int) := of_decide_eq_false (Bool.eq_false_iff.mpr q)
          refine kQ _ _ ⟨?_, rfl⟩
          unfold aheadD
          rw [if_pos (by omega)]
          exact .non
      rintro va _ ⟨hva, rfl⟩
      refine a_set (fun v H' => Tx H' v (behindD (places c gs) i) ∧ H6 = H') (fun Q' kQ => ?_) ?_
      · refine ⟨_, rfl, _, _, rfl, rfl, _, rfl, l, xs, rfl, .inl (SqL.of hl6), _, _, rfl, rfl, _, rfl, ite2 (fun q => ?_) (fun q => ?_)⟩
        · have q : (i : Int) + 1 < (xs.length : Int) := of_decide_eq_true q
          obtain ⟨p1, hp1⟩ : ∃ p1, (places c gs)[i + 1]? = some p1 := ⟨_, List.getElem?_eq_getElem (by omega)⟩
          obtain ⟨w1, hw1, tw1⟩ := hX6.getD (i + 1) (plcD p1) (by rw [List.getElem?_map, hp1]; rfl)
          refine ⟨_, rfl, _, rfl, _, _, rfl, rfl, _, _, _, _, rfl, rfl, SqL.of hl6, (atI_nat (j := i + 1) hw1), kQ _ _ ⟨?_, rfl⟩⟩
          unfold behindD
          rw [hp1]
          exact tw1
        · have q : ¬ (i : Int) + 1 < (xs.length : Int) := of_decide_eq_false (Bool.eq_false_iff.mpr q)
          refine kQ _ _ ⟨?_, rfl⟩
          unfold behindD
          rw [List.getElem?_eq_none (by omega)]
          exact .non
      rintro vb _ ⟨hvb, rfl⟩
      -- told
      have dat := told_shw (i := (p.lev : Nat)) (j := min (i : Int) (((places c gs).length : Int) - 1 - (i : Int))) (ahead_show tame i).1 (ahead_show tame i).2 ⟨by have := tp.lev; omega, by have := tp.lev; omega⟩ ⟨by omega, by omega⟩
      have mn : ∀ L n : Int, (if L - 1 - n < n then L - 1 - n else n) = min n (L - 1 - n) := fun L n => by split <;> omega
      refine a_set (fun v H' => Dx H' v (.list [.tuple [aheadD (places c gs) i, behindD (places c gs) i], .tuple [.int (p.lev : Nat), .int (min (i : Int) (((places c gs).length : Int) - 1 - (i : Int)))]]) ∧ Same H6 H') (fun Q' kQ => ?_) ?_
      · refine ⟨_, rfl, _, rfl, _, rfl, c, i, x, x2, gs, p, rfl, hc, hx5.grow s6, hsm, hb, hp0.grow s6, hp, fun u1 H7 s7 hu1 => ?_⟩
        refine ⟨_, rfl, _, rfl, _, rfl, c, i, x, gs, p, rfl, hc, (hx5.grow s6).grow s7, hsm, hb, hp, fun u2 H8 s8 hu2 => ?_⟩
        refine ⟨(by show 2 ≤ sizeLine; decide), fun t nt => ?_⟩
        have s9 := same_new (o := .lst [u1, u2]) nt
        exact kQ _ _ ⟨.lst upd_same (.cons (hu1.grow (s8.trans s9)).dx (.cons (hu2.grow s9).dx .nil)), (s7.trans s8).trans s9⟩
      rintro vt H7 ⟨hvt, s7⟩
      refine a_if1 (fun b H' => b = false ∧ Same H7 H') (fun Q' kQ => ?_) (fun H' h => nomatch h.1) ?_
      · refine ⟨_, rfl, _, _, rfl, hvt.dp dat.noDict, dat, ?_⟩
        refine ⟨_, rfl, _, rfl, (by show 2 ≤ sizeLine; decide), fun p1 n1 => ?_⟩
        have s8 := same_new (o := .tup [va, vb]) n1
        obtain ⟨q, w2, rfl, hq, _⟩ := ((hp0.grow (s6.trans s7)).grow s8).plc
        refine ⟨_, rfl, _, _, _, _, rfl, rfl, SqT.of hq, atI_nat (j := 0) rfl, ?_⟩
        refine ⟨_, rfl, _, rfl, l, xs, rfl, .inl (SqL.of (s8 _ _ (s7 _ _ hl6))), _, _, rfl, rfl, _, rfl, _, _, rfl, rfl, _, _, rfl, (by show 2 ≤ sizeLine; decide), fun p2 n2 => ?_⟩
        rw [mn]
        have s9 := same_new (o := .tup [.int (p.lev : Nat), .int (min (i : Int) ((xs.length : Int) - 1 - (i : Int)))]) n2
        refine ⟨(by show 2 ≤ sizeLine; decide), fun p3 n3 => ?_⟩
        have sA := same_new (o := .lst [.ref p1, .ref p2]) n3
        have s79 := ((s7.trans s8).trans s9).trans sA
        have fin : Dx (upd (upd (upd H7 p1 (.tup [va, vb])) p2 (.tup [.int (p.lev : Nat), .int (min (i : Int) ((xs.length : Int) - 1 - (i : Int)))])) p3 (.lst [.ref p1, .ref p2])) (.ref p3)
            (.list [.tuple [aheadD (places c gs) i, behindD (places c gs) i], .tuple [.int (p.lev : Nat), .int (min (i : Int) (((places c gs).length : Int) - 1 - (i : Int)))]]) := by
          rw [show (((places c gs).length : Nat) : Int) = (xs.length : Int) by rw [lx]]
          have hvaF := (((hva.grow s7).grow s8).grow s9).grow sA
          have hvbF := (((hvb.grow s7).grow s8).grow s9).grow sA
          exact .lst upd_same (.cons (.tup (sA _ _ (s9 _ _ upd_same)) (.cons hvaF.dx (.cons hvbF.dx .nil))) (.cons (.tup (sA _ _ upd_same) (.cons (.int _) (.cons (.int _) .nil))) .nil))
        refine ⟨_, _, rfl, fin.dp dat.noDict, dat, rfl, false, congrArg V.bl ?_, kQ _ _ ⟨rfl, (s8.trans s9).trans sA⟩⟩
        rw [decide_eq_true rfl]
        rfl
      · rintro H8 ⟨_, s8⟩
        refine ⟨_, _, _, _, _, rfl, ((s45.trans s6).trans s7).trans s8⟩
    · rintro σ H4 ⟨v4, v5, v6, v7, v8, rfl, s4⟩
      exact k _ (m1.ofSame (s2.trans s4))
end
end G

set_option Elab.async false
set_option linter.all false
set_option maxRecDepth 100000
set_option maxHeartbeats 4000000
namespace G
open PySem PySem.Spec PyProof.Rows L2
theorem TxtS.made {K : PySem.W.Frag} {mg : Str → Option Value} {aS : Addr} {o : Obj} {t1 t2 : Tok} {n : Nat} (g : mg "SIDES" = some (.ref aS)) (l : K.lookup aS = some o) (c : o.cls = .type "tuple") (d : o.dict = none) (e : o.data = .seq #[.str "left" t1, .str "right" t2] n) : TxtS K mg aS :=
  ⟨⟨_, g, rfl⟩, o, t1, t2, n, l, c, d, e⟩
def spLaw (K : PySem.W.Frag) : Sp := fun vs H Q _ => ∃ (a : Addr) (ns : List Int), vs = [.ref a] ∧ SqL K H a (ns.map V.int) ∧ ns.length ≤ 63 ∧ ∀ H', Q (.bl true) H'
theorem Mv.out {d : Addr} {H H' : Hp} {o : HO} (n : H d = none) (m : Mv d (upd H d o) H') : Same H H' := fun b u e => by
  have nb : b ≠ d := ne_of_none e n
  exact m.get nb (by rw [upd_ne nb]; exact e)
def gs0 : List (Nat × Nat) := [(1, 1), (1, 0), (0, 1)]
theorem row0 (H : Hp) {p1 p2 p3 p4 : Addr} (h1 : H p1 = some (.tup [.int 1, .int 1])) (h2 : H p2 = some (.tup [.int 1, .int 0])) (h3 : H p3 = some (.tup [.int 0, .int 1])) (h4 : H p4 = some (.tup [.ref p1, .ref p2, .ref p3])) :
    RowAt H (.ref p4) (rowN gs0) := ⟨p4, _, rfl, h4, .cons h1 (.cons h2 (.cons h3 .nil))⟩
theorem small0 : Small gs0 := ⟨by decide, by decide⟩
theorem rowB0 : rowB (rowD (rowN gs0)) = true := by decide +kernel
def plc0 : Plc := ⟨2, "right", 0, [1, 0]⟩
theorem place0 : (places 2 gs0)[5]? = some plc0 := rfl
theorem len0 : (places 2 gs0).length = 8 := rfl
def due0 : List Spn := [⟨0, "left", 0, 1⟩, ⟨1, "left", 1, 3⟩, ⟨2, "right", 3, 7⟩, ⟨0, "right", 7, 8⟩]
theorem spans0 : spansB 2 0 (blocks gs0) = due0 := rfl
section
variable {P : Program} {w : World} {K : PySem.W.Frag} {mg : Str → Option Value}

theorem c_law {fa : Addr} (T : Txt K mg) (TSx : ∃ aS, TxtS K mg aS) (hf : mg "law" = some (.ref fa))
    (D1 : DefAt K mg "is_integer" s_is_integer ["value"])
    (D2 : DefAt K mg "is_within" s_is_within ["value", "least", "greatest"])
    (D3 : DefAt K mg "is_pair" s_is_pair ["value"])
    (D4 : DefAt K mg "is_pair_within" s_is_pair_within ["value", "least", "greatest"])
    (D5 : DefAt K mg "is_form" s_is_form ["value"])
    (D6 : DefAt K mg "are_forms" s_are_forms ["value"])
    (D7 : DefAt K mg "is_row" s_is_row ["value"])
    (D8 : DefAt K mg "check_row" s_check_row ["row"])
    (D9 : DefAt K mg "check_arity" s_check_arity ["arity"])
    (D10 : DefAt K mg "length_of" s_length_of ["arity", "row"])
    (D11 : DefAt K mg "sides_of" s_sides_of ["arity", "row"])
    (D12 : DefAt K mg "sums_of" s_sums_of ["arity", "row"])
    (D13 : DefAt K mg "place_of" s_place_of ["arity", "row", "number"])
    (D14 : DefAt K mg "_check_number" s__check_number ["arity", "row", "number"])
    (D15 : DefAt K mg "_place_at" s__place_at ["arity", "row", "number"])
    (D16 : DefAt K mg "number_of" s_number_of ["arity", "row", "place"])
    (D17 : DefAt K mg "is_place" s_is_place ["arity", "row", "value"])
    (D18 : DefAt K mg "spans" s_spans ["arity", "row"])
    (D19 : DefAt K mg "_spans" s__spans ["arity", "row"])
    (D20 : DefAt K mg "beside" s_beside ["arity", "row", "place"])
    (D21 : DefAt K mg "outward" s_outward ["arity", "row", "number"])
    (D22 : DefAt K mg "_law_dice" s__law_dice ["_law_script", "_law_spot"])
    (D23 : DefAt K mg "_law_roll" s__law_roll ["_law_dice_here", "_law_total"])
    (D24 : DefAt K mg "_law_cut" s__law_cut ["_law_forms"])
    (D25 : DefAt K mg "_law_some_form" s__law_some_form ["_law_dice_here", "_law_high"])
    (D26 : DefAt K mg "_law_some_row" s__law_some_row ["_law_dice_here", "_law_levels", "_law_high"])
    (D27 : DefAt K mg "_law_paths" s__law_paths ["_law_arity", "_law_level"])
    (D28 : DefAt K mg "_law_longer" s__law_longer ["_law_paths_here", "_law_arity"])
    (D29 : DefAt K mg "_law_side_places" s__law_side_places ["_law_arity", "_law_level", "_law_side", "_law_many"])
    (D30 : DefAt K mg "_law_all_places" s__law_all_places ["_law_arity", "_law_row"])
    (D31 : DefAt K mg "_law_span_list" s__law_span_list ["_law_places"])
    (D32 : DefAt K mg "_law_right" s__law_right ["_law_dice_here", "_law_arity"])
    (D33 : DefAt K mg "law" s_law ["_law_script"]) :
    ∃ fd : FuncData, (∀ (s : Shared) (u : Value), BindsTo s fd ⟨[u], []⟩ [("_law_script", u)]) ∧
      ∀ base : Heap, K.In base → base.Ns mainGlobals mg → FnG P w K mg base CX0 13 fa fd ["_law_script"] (spLaw K) := by
  obtain ⟨aS, TS⟩ := TSx
  refine lawOk hf D33 sc_law (fun xs H Q E h => ?_) (fun base hK hN f cdv A out s H xs Q E hgd hr h => ?_)
  · obtain ⟨a, ns, rfl, _⟩ := h
    rfl
  · obtain ⟨a, ns, rfl, hS, hlen, k⟩ := h
    have nd := sc_law.nd
    have C_is_integer : CalG P w K mg base 1 "is_integer" ["value"] (spJ intB) := c_is_integer T D1
    have C_is_within : CalG P w K mg base 2 "is_within" ["value", "least", "greatest"] spWithin := c_is_within T C_is_integer D2
    have C_is_pair : CalG P w K mg base 2 "is_pair" ["value"] (spJ pairB) := c_is_pair T C_is_integer D3
    have C_is_pair_within : CalG P w K mg base 3 "is_pair_within" ["value", "least", "greatest"] spPairWithin := c_is_pair_within T C_is_pair D4
    have C_is_form : CalG P w K mg base 4 "is_form" ["value"] (spJ formB) := c_is_form T C_is_pair_within D5
    have C_are_forms : CalG P w K mg base 5 "are_forms" ["value"] (spJ formsB) := c_are_forms T C_is_form D6
    have C_is_row : CalG P w K mg base 6 "is_row" ["value"] (spJ rowB) := c_is_row T C_are_forms D7
    have C_check_arity : CalG P w K mg base 3 "check_arity" ["arity"] spCheckArity := c_check_arity T C_is_within D9
    have C_check_row : CalG P w K mg base 7 "check_row" ["row"] spCheckRow := c_check_row T C_is_row D8
    have C_sums_of : CalG P w K mg base 1 "sums_of" ["arity", "row"] spSums := c_sums T D12
    have C_sides_of : CalG P w K mg base 8 "sides_of" ["arity", "row"] spSides := c_sides T C_check_arity C_check_row C_sums_of D11
    have C_length_of : CalG P w K mg base 9 "length_of" ["arity", "row"] spLength := c_length T C_sides_of D10
    have C__spans : CalG P w K mg base 1 "_spans" ["arity", "row"] spSpansB := c_spans_ T D19
    have C_spans : CalG P w K mg base 8 "spans" ["arity", "row"] spSpans := c_spans T C_check_arity C_check_row C__spans D18
    have C__check_number : CalG P w K mg base 10 "_check_number" ["arity", "row", "number"] spCheckNum := c_check_number T C_is_within C_length_of D14
    have C__place_at : CalG P w K mg base 2 "_place_at" ["arity", "row", "number"] spPlaceAt := c_place_at T C__spans D15
    have C_place_of : CalG P w K mg base 11 "place_of" ["arity", "row", "number"] spPlaceOf := c_place_of T C__check_number C__place_at D13
    have C_is_place : CalG P w K mg base 8 "is_place" ["arity", "row", "value"] spIsPlace := c_is_place T TS C_is_within C_check_arity C_check_row D17
    have C_number_of : CalG P w K mg base 9 "number_of" ["arity", "row", "place"] spNumberOf := c_number_of T C_is_place C__spans D16
    have C_beside : CalG P w K mg base 10 "beside" ["arity", "row", "place"] spBeside := c_beside T C_number_of C__place_at C_length_of D20
    have C_outward : CalG P w K mg base 11 "outward" ["arity", "row", "number"] spOutward := c_outward T C__check_number C__place_at C_length_of D21
    have C__law_dice : CalG P w K mg base 1 "_law_dice" ["_law_script", "_law_spot"] (spDice K) := c_dice T D22
    have C__law_roll : CalG P w K mg base 1 "_law_roll" ["_law_dice_here", "_law_total"] spRoll := c_roll T D23
    have C__law_cut : CalG P w K mg base 1 "_law_cut" ["_law_forms"] spCut := c_cut T D24
    have C__law_some_form : CalG P w K mg base 2 "_law_some_form" ["_law_dice_here", "_law_high"] spSomeForm := c_some_form T C__law_roll D25
    have C__law_some_row : CalG P w K mg base 3 "_law_some_row" ["_law_dice_here", "_law_levels", "_law_high"] spSomeRow := c_some_row T C__law_roll C__law_some_form C__law_cut D26
    have C__law_longer : CalG P w K mg base 1 "_law_longer" ["_law_paths_here", "_law_arity"] spLonger := c_longer T D28
    have C__law_paths : CalG P w K mg base 2 "_law_paths" ["_law_arity", "_law_level"] spPaths := c_paths T C__law_longer D27
    have C__law_side_places : CalG P w K mg base 3 "_law_side_places" ["_law_arity", "_law_level", "_law_side", "_law_many"] spSideP := c_side_places T C__law_paths D29
    have C__law_all_places : CalG P w K mg base 4 "_law_all_places" ["_law_arity", "_law_row"] spAll := c_all T C__law_side_places D30
    have C__law_span_list : CalG P w K mg base 1 "_law_span_list" ["_law_places"] spSpanL := c_span_list T D31
    have C__law_right : CalG P w K mg base 12 "_law_right" ["_law_dice_here", "_law_arity"] spArity := c_right T C__law_some_row C__law_all_places C_spans C__law_span_list C_place_of C_number_of C_beside C_outward D32
    refine ⟨_, (pss_cons (ps_for PassesOwn.never rfl (pi_range1 rfl T.range (pa_cons (pe_callB (call_max2 rfl) (by rfl) T.max (by decide +kernel) (pa_cons pe_int (pa_cons (pe_callB (call_min2 rfl) (by rfl) T.min (by decide +kernel) (pa_cons pe_int (pa_cons (pe_callB call_len_seq (by rfl) T.len (by decide +kernel) (pa_cons (pv 0) pa_nil)) pa_nil))) pa_nil))) pa_nil)) (pg_name (i := 1) nd rfl (.inl rfl)) (pss_cons (ps_set (i := 2) nd rfl (.inl rfl) (pe_k C__law_dice hgd hr (by decide) rfl (pa_cons (pv 0) (pa_cons (pv 1) pa_nil))))
        (pss_one (ps_if (PW.pt (pw_or (pt_not (pt_val (pe_k C__law_right hgd hr (by decide) rfl (pa_cons (pv 2) (pa_cons pe_int pa_nil))))) (pw_or1 (pt_not (pt_val (pe_k C__law_right hgd hr (by decide) rfl (pa_cons (pv 2) (pa_cons pe_int pa_nil)))))))) (pss_one (ps_ret pe_bl)) pss_nil))))
      (pss_cons (ps_set (i := 3) nd rfl (.inl rfl) (pe_tup (pa_cons (pe_tup (pa_cons pe_int (pa_cons pe_int pa_nil))) (pa_cons (pe_tup (pa_cons pe_int (pa_cons pe_int pa_nil))) (pa_cons (pe_tup (pa_cons pe_int (pa_cons pe_int pa_nil))) pa_nil)))))
      (pss_cons (ps_set (i := 4) nd rfl (.inl rfl) (pe_tup (pa_cons (pe_tup (pa_cons pe_int (pa_cons pe_str (pa_cons pe_int (pa_cons pe_int pa_nil))))) (pa_cons (pe_tup (pa_cons pe_int (pa_cons pe_str (pa_cons pe_int (pa_cons pe_int pa_nil))))) (pa_cons (pe_tup (pa_cons pe_int (pa_cons pe_str (pa_cons pe_int (pa_cons pe_int pa_nil))))) (pa_cons (pe_tup (pa_cons pe_int (pa_cons pe_str (pa_cons pe_int (pa_cons pe_int pa_nil))))) pa_nil))))))
      (pss_cons (ps_set (i := 5) nd rfl (.inl rfl) (pe_lst (pa_cons (pe_k C_place_of hgd hr (by decide) rfl (pa_cons pe_int (pa_cons (pv 3) (pa_cons pe_int pa_nil)))) (pa_cons (pe_k C_number_of hgd hr (by decide) rfl (pa_cons pe_int (pa_cons (pv 3) (pa_cons (pe_tup (pa_cons pe_int (pa_cons pe_str (pa_cons pe_int (pa_cons (pe_tup (pa_cons pe_int (pa_cons pe_int pa_nil))) pa_nil))))) pa_nil)))) (pa_cons (pe_k C_outward hgd hr (by decide) rfl (pa_cons pe_int (pa_cons (pv 3) (pa_cons pe_int pa_nil)))) (pa_cons (pe_k C_spans hgd hr (by decide) rfl (pa_cons pe_int (pa_cons (pe_tup pa_nil) pa_nil))) pa_nil))))))
      (pss_one (ps_ret (pe_and (pe_cmpR (op_eqD hr.units) (pe_k C_spans hgd hr (by decide) rfl (pa_cons pe_int (pa_cons (pv 3) pa_nil))) (pv 4) (nomark _)) (pe_one (pe_cmpR (op_eqD hr.units) (pv 5) (pe_lst (pa_cons (pe_tup (pa_cons pe_int (pa_cons pe_str (pa_cons pe_int (pa_cons (pe_tup (pa_cons pe_int (pa_cons pe_int pa_nil))) pa_nil))))) (pa_cons pe_int (pa_cons (pe_tup (pa_cons pe_int (pa_cons pe_int pa_nil))) (pa_cons (pe_tup pa_nil) pa_nil))))) (nomark _)))))))))), ?_⟩
    refine ⟨_, rfl, _, _, rfl, .inl hS, _, _, rfl, _, _, rfl, _, rfl, ?_, ?_, ?_⟩
    · rw [List.length_map]; split <;> split <;> omega
    · rw [List.length_map]; split <;> split <;> omega
    refine for_range (fun i σ H' => ∃ v1 v2 v3 v4 v5, σ = [some (.ref a), v1, v2, v3, v4, v5] ∧ Same H H') ?_ ?_ ?_
    · exact ⟨_, _, _, _, _, rfl, Same.refl _⟩
    · rintro i σ H0 hi ⟨v1, v2, v3, v4, v5, rfl, s0⟩
      refine a_set (fun v H' => ∃ d, v = .ref d ∧ DiceAt H' d ∧ ∀ H2, Mv d H' H2 → Same H0 H2) (fun Q' kQ => ?_) ?_
      · refine ⟨_, rfl, _, rfl, a, ns, i, (by show [V.ref a, V.int (0 + (i : Int))] = _; rw [Int.zero_add]), s0.seq hS, Nat.le_trans hlen (by decide), fun d l0 t0 c0 nd0 => ?_⟩
        exact kQ _ _ ⟨d, rfl, ⟨_, _, _, upd_same⟩, fun H2 m => Mv.out nd0 m⟩
      rintro _ HD ⟨d, rfl, dd, mz⟩
      refine a_if1 (fun b H' => b = false ∧ Mv d HD H') (fun Q' kQ => ?_) (fun H' h => nomatch h.1) (fun H6 h => ?_)
      · refine ⟨_, rfl, d, 2, rfl, dd, .inl rfl, fun H2 m2 => ⟨_, rfl, ?_⟩⟩
        refine ⟨_, rfl, d, 3, rfl, m2.dice, .inr rfl, fun H3 m3 => ⟨_, rfl, ?_⟩⟩
        exact kQ _ _ ⟨rfl, m2.trans m3⟩
      · exact ⟨_, _, _, _, _, rfl, s0.trans (mz _ h.2)⟩
    · rintro σ H0 ⟨v1, v2, v3, v4, v5, rfl, s0⟩
      refine go_nx ?_
      refine a_set (fun v H' => RowAt H' v (rowN gs0)) (fun Q' kQ => ?_) ?_
      · refine ⟨(by show 2 ≤ sizeLine; decide), fun p1 n1 => ⟨(by show 2 ≤ sizeLine; decide), fun p2 n2 => ⟨(by show 2 ≤ sizeLine; decide), fun p3 n3 => ⟨(by show 3 ≤ sizeLine; decide), fun p4 n4 => ?_⟩⟩⟩⟩
        exact kQ _ _ (row0 _ (same_new n4 _ _ (same_new n3 _ _ (same_new n2 _ _ upd_same))) (same_new n4 _ _ (same_new n3 _ _ upd_same)) (same_new n4 _ _ upd_same) upd_same)
      rintro x H1 hx
      refine a_set (fun v H' => Tx H' v (.tuple (due0.map spnD)) ∧ Same H1 H') (fun Q' kQ => ?_) ?_
      · refine ⟨(by show 4 ≤ sizeLine; decide), fun p1 n1 => ⟨(by show 4 ≤ sizeLine; decide), fun p2 n2 => ⟨(by show 4 ≤ sizeLine; decide), fun p3 n3 => ⟨(by show 4 ≤ sizeLine; decide), fun p4 n4 => ⟨(by show 4 ≤ sizeLine; decide), fun p5 n5 => ?_⟩⟩⟩⟩⟩
        refine kQ _ _ ⟨.tup upd_same (.cons ?_ (.cons ?_ (.cons ?_ (.cons ?_ .nil)))), ((((same_new n1).trans (same_new n2)).trans (same_new n3)).trans (same_new n4)).trans (same_new n5)⟩
        · exact .tup (same_new n5 _ _ (same_new n4 _ _ (same_new n3 _ _ (same_new n2 _ _ upd_same)))) (.cons (.int 0) (.cons (.str _) (.cons (.int 0) (.cons (.int 1) .nil))))
        · exact .tup (same_new n5 _ _ (same_new n4 _ _ (same_new n3 _ _ upd_same))) (.cons (.int 1) (.cons (.str _) (.cons (.int 1) (.cons (.int 3) .nil))))
        · exact .tup (same_new n5 _ _ (same_new n4 _ _ upd_same)) (.cons (.int 2) (.cons (.str _) (.cons (.int 3) (.cons (.int 7) .nil))))
        · exact .tup (same_new n5 _ _ upd_same) (.cons (.int 0) (.cons (.str _) (.cons (.int 7) (.cons (.int 8) .nil))))
      rintro vd H2 ⟨hvd, s2⟩
      replace hx := hx.grow s2
      refine a_set (fun v H' => Dx H' v (.list [plcD plc0, .int 5, .tuple [.int 2, .int 2], .tuple []]) ∧ Same H2 H') (fun Q' kQ => ?_) ?_
      · refine ⟨_, rfl, 2, 5, x, gs0, plc0, rfl, .inl rfl, hx, small0, rowB0, place0, fun u1 H3 s3 hu1 => ?_⟩
        refine ⟨_, rfl, (by show 2 ≤ sizeLine; decide), fun p1 n1 => ⟨(by show 4 ≤ sizeLine; decide), fun p2 n2 => ?_⟩⟩
        have s4 := (same_new (o := .tup [.int 1, .int 0]) n1).trans (same_new (o := .tup [.int 2, .str "right", .int 0, .ref p1]) n2)
        have hpl : Tx (upd (upd H3 p1 (.tup [.int 1, .int 0])) p2 (.tup [.int 2, .str "right", .int 0, .ref p1])) (.ref p2) (plcD plc0) := .tup upd_same (.cons (.int 2) (.cons (.str _) (.cons (.int 0) (.cons (.tup (same_new n2 _ _ upd_same) (.cons (.int 1) (.cons (.int 0) .nil))) .nil))))
        refine ⟨2, 5, x, _, gs0, plc0, rfl, .inl rfl, (hx.grow s3).grow s4, small0, rowB0, hpl, place0, fun H5 s5 => ?_⟩
        have s35 := (s3.trans s4).trans s5
        refine ⟨_, rfl, 2, 5, x, gs0, plc0, rfl, .inl rfl, hx.grow s35, small0, rowB0, place0, fun u2 H6 s6 hu2 => ?_⟩
        refine ⟨(by show 0 ≤ sizeLine; decide), fun p7 n7 => ?_⟩
        have s7 := same_new (o := .tup []) n7
        refine ⟨3, .ref p7, [], rfl, .inr rfl, ⟨p7, [], rfl, upd_same, .nil⟩, ⟨by decide, by decide⟩, (by decide +kernel), fun u3 H8 s8 hu3 => ?_⟩
        refine ⟨(by show 4 ≤ sizeLine; decide), fun t nt => ?_⟩
        have s9 := same_new (o := .lst [u1, .int 5, u2, u3]) nt
        have h1 := ((((hu1.grow s4).grow s5).grow s6).grow s7).grow s8
        have h2 := (hu2.grow s7).grow s8
        rw [len0] at h2
        exact kQ _ _ ⟨.lst upd_same (.cons (h1.grow s9).dx (.cons (.int 5) (.cons (h2.grow s9).dx (.cons (hu3.grow s9).dx .nil)))), (((s35.trans s6).trans s7).trans s8).trans s9⟩
      rintro vt H3 ⟨hvt, s3⟩
      refine a_ret (fun v _ => v = .bl true) (fun Q' kQ => ?_) (fun v H2 e => by rw [e]; exact k H2)
      refine ⟨_, rfl, 2, x, gs0, rfl, .inl rfl, hx.grow s3, small0, rowB0, fun v4 H4 s4 hv4 => ?_⟩
      rw [spans0] at hv4
      refine ⟨_, rfl, _, _, hv4.dx.dp (by decide +kernel), ((hvd.grow s3).grow s4).dx.dp (by decide +kernel), (by decide +kernel), (by decide +kernel), true, congrArg V.bl (by decide +kernel), iteT ?_⟩
      refine ⟨_, rfl, ?_⟩
      refine ⟨(by show 2 ≤ sizeLine; decide), fun p1 n1 => ⟨(by show 4 ≤ sizeLine; decide), fun p2 n2 => ⟨(by show 2 ≤ sizeLine; decide), fun p3 n3 => ⟨(by show 0 ≤ sizeLine; decide), fun p4 n4 => ⟨(by show 4 ≤ sizeLine; decide), fun q nq => ?_⟩⟩⟩⟩⟩
      have sA := ((((same_new n1).trans (same_new n2)).trans (same_new n3)).trans (same_new n4)).trans (same_new (o := .lst [.ref p2, .int 5, .ref p3, .ref p4]) nq)
      have hq : Dx (upd (upd (upd (upd (upd H4 p1 (.tup [.int 1, .int 0])) p2 (.tup [.int 2, .str "right", .int 0, .ref p1])) p3 (.tup [.int 2, .int 2])) p4 (.tup [])) q (.lst [.ref p2, .int 5, .ref p3, .ref p4])) (.ref q) (.list [plcD plc0, .int 5, .tuple [.int 2, .int 2], .tuple []]) :=
        .lst upd_same (.cons (.tup (same_new nq _ _ (same_new n4 _ _ (same_new n3 _ _ upd_same))) (.cons (.int 2) (.cons (.str _) (.cons (.int 0) (.cons (.tup (same_new nq _ _ (same_new n4 _ _ (same_new n3 _ _ (same_new n2 _ _ upd_same)))) (.cons (.int 1) (.cons (.int 0) .nil))) .nil)))))
          (.cons (.int 5) (.cons (.tup (same_new nq _ _ (same_new n4 _ _ upd_same)) (.cons (.int 2) (.cons (.int 2) .nil))) (.cons (.tup (same_new nq _ _ upd_same) .nil) .nil))))
      refine ⟨_, _, ((hvt.grow s4).grow sA).dp (by decide +kernel), hq.dp (by decide +kernel), (by decide +kernel), (by decide +kernel), kQ _ _ (congrArg V.bl (by decide +kernel))⟩

end
end G

set_option Elab.async false
set_option linter.all false
namespace G
open PySem PySem.Spec PyProof.Rows L2
theorem walk_fingerbooks_k36_whole_places_listed {q : Program} {loose : List Str} {XP : (Str → Option Value) → Heap → Prop} {YP : World → Heap → Prop} {d : DefRec} {K : Params → PySem.W.Frag}
    (hdf : d.params.defaults = []) (hY : ∀ (w : World) (h : Heap), YP w h → (K w.params).In h)
    (F : ∀ (w : World) (mg : Str → Option Value) (fa : Addr) (h : Heap), (K w.params).In h → h.Ns mainGlobals mg → mg d.name = some (.ref fa) →
      ∃ fd : FuncData, (∀ (s : Shared) (u : Value), BindsTo s fd ⟨[u], []⟩ [("_law_script", u)]) ∧
        ∀ base : Heap, (K w.params).In base → base.Ns mainGlobals mg → FnG PySem.Challenge.rw_fingerbooks_k36_whole_places_listed.prog w (K w.params) mg base CX0 13 fa fd ["_law_script"] (spLaw (K w.params))) :
    PySem.W.WalkO q loose XP YP PySem.Challenge.rw_fingerbooks_k36_whole_places_listed.row.toRowW d [] (fun f vs => PySem.call f vs) :=
  endG (n := 63) (k := 13) (sp := fun K => spLaw K) rfl (by decide) hdf ⟨rfl, by decide, by decide⟩ hY F (fun K H a ns hl hS => ⟨a, ns, rfl, hS, hl, fun _ => rfl⟩)
end G

open PySem PySem.W PyProof.Rows in
set_option maxRecDepth 100000 in
set_option maxHeartbeats 0 in
theorem PySem.Challenge.cw_fingerbooks_k36_whole_places_listed_holds : PySem.Challenge.rw_fingerbooks_k36_whole_places_listed.Holds := by
  w_on; o_law; k_head; (case hw => w_witness2)
  k_fill
  refine G.walk_fingerbooks_k36_whole_places_listed rfl (fun w h Y => PySem.W.kIn_of Y) ?F
  case F =>
    intro w mg fa h KX gl hmg
    refine' G.c_law ?T ⟨_, G.TxtS.made (PySem.W.mg_of KX gl ?s0) ?s1 ?s2 ?s3 ?s4⟩ hmg (G.defAt KX gl ?b0 ?a0 ?l0 ?c0 ?k0) (G.defAt KX gl ?b1 ?a1 ?l1 ?c1 ?k1) (G.defAt KX gl ?b2 ?a2 ?l2 ?c2 ?k2) (G.defAt KX gl ?b3 ?a3 ?l3 ?c3 ?k3) (G.defAt KX gl ?b4 ?a4 ?l4 ?c4 ?k4) (G.defAt KX gl ?b5 ?a5 ?l5 ?c5 ?k5) (G.defAt KX gl ?b6 ?a6 ?l6 ?c6 ?k6) (G.defAt KX gl ?b7 ?a7 ?l7 ?c7 ?k7) (G.defAt KX gl ?b8 ?a8 ?l8 ?c8 ?k8) (G.defAt KX gl ?b9 ?a9 ?l9 ?c9 ?k9) (G.defAt KX gl ?b10 ?a10 ?l10 ?c10 ?k10) (G.defAt KX gl ?b11 ?a11 ?l11 ?c11 ?k11) (G.defAt KX gl ?b12 ?a12 ?l12 ?c12 ?k12) (G.defAt KX gl ?b13 ?a13 ?l13 ?c13 ?k13) (G.defAt KX gl ?b14 ?a14 ?l14 ?c14 ?k14) (G.defAt KX gl ?b15 ?a15 ?l15 ?c15 ?k15) (G.defAt KX gl ?b16 ?a16 ?l16 ?c16 ?k16) (G.defAt KX gl ?b17 ?a17 ?l17 ?c17 ?k17) (G.defAt KX gl ?b18 ?a18 ?l18 ?c18 ?k18) (G.defAt KX gl ?b19 ?a19 ?l19 ?c19 ?k19) (G.defAt KX gl ?b20 ?a20 ?l20 ?c20 ?k20) (G.defAt KX gl ?b21 ?a21 ?l21 ?c21 ?k21) (G.defAt KX gl ?b22 ?a22 ?l22 ?c22 ?k22) (G.defAt KX gl ?b23 ?a23 ?l23 ?c23 ?k23) (G.defAt KX gl ?b24 ?a24 ?l24 ?c24 ?k24) (G.defAt KX gl ?b25 ?a25 ?l25 ?c25 ?k25) (G.defAt KX gl ?b26 ?a26 ?l26 ?c26 ?k26) (G.defAt KX gl ?b27 ?a27 ?l27 ?c27 ?k27) (G.defAt KX gl ?b28 ?a28 ?l28 ?c28 ?k28) (G.defAt KX gl ?b29 ?a29 ?l29 ?c29 ?k29) (G.defAt KX gl ?b30 ?a30 ?l30 ?c30 ?k30) (G.defAt KX gl ?b31 ?a31 ?l31 ?c31 ?k31) (G.defAt KX gl ?b32 ?a32 ?l32 ?c32 ?k32)
    (case s0 => k_is)
    (case s1 => k_is)
    (case s2 => rfl)
    (case s3 => rfl)
    (case s4 => rfl)
    (case a0 => k_is)
    (case l0 => k_is)
    (case c0 => k_is)
    (case k0 => k_is)
    (case a1 => k_is)
    (case l1 => k_is)
    (case c1 => k_is)
    (case k1 => k_is)
    (case a2 => k_is)
    (case l2 => k_is)
    (case c2 => k_is)
    (case k2 => k_is)
    (case a3 => k_is)
    (case l3 => k_is)
    (case c3 => k_is)
    (case k3 => k_is)
    (case a4 => k_is)
    (case l4 => k_is)
    (case c4 => k_is)
    (case k4 => k_is)
    (case a5 => k_is)
    (case l5 => k_is)
    (case c5 => k_is)
    (case k5 => k_is)
    (case a6 => k_is)
    (case l6 => k_is)
    (case c6 => k_is)
    (case k6 => k_is)
    (case a7 => k_is)
    (case l7 => k_is)
    (case c7 => k_is)
    (case k7 => k_is)
    (case a8 => k_is)
    (case l8 => k_is)
    (case c8 => k_is)
    (case k8 => k_is)
    (case a9 => k_is)
    (case l9 => k_is)
    (case c9 => k_is)
    (case k9 => k_is)
    (case a10 => k_is)
    (case l10 => k_is)
    (case c10 => k_is)
    (case k10 => k_is)
    (case a11 => k_is)
    (case l11 => k_is)
    (case c11 => k_is)
    (case k11 => k_is)
    (case a12 => k_is)
    (case l12 => k_is)
    (case c12 => k_is)
    (case k12 => k_is)
    (case a13 => k_is)
    (case l13 => k_is)
    (case c13 => k_is)
    (case k13 => k_is)
    (case a14 => k_is)
    (case l14 => k_is)
    (case c14 => k_is)
    (case k14 => k_is)
    (case a15 => k_is)
    (case l15 => k_is)
    (case c15 => k_is)
    (case k15 => k_is)
    (case a16 => k_is)
    (case l16 => k_is)
    (case c16 => k_is)
    (case k16 => k_is)
    (case a17 => k_is)
    (case l17 => k_is)
    (case c17 => k_is)
    (case k17 => k_is)
    (case a18 => k_is)
    (case l18 => k_is)
    (case c18 => k_is)
    (case k18 => k_is)
    (case a19 => k_is)
    (case l19 => k_is)
    (case c19 => k_is)
    (case k19 => k_is)
    (case a20 => k_is)
    (case l20 => k_is)
    (case c20 => k_is)
    (case k20 => k_is)
    (case a21 => k_is)
    (case l21 => k_is)
    (case c21 => k_is)
    (case k21 => k_is)
    (case a22 => k_is)
    (case l22 => k_is)
    (case c22 => k_is)
    (case k22 => k_is)
    (case a23 => k_is)
    (case l23 => k_is)
    (case c23 => k_is)
    (case k23 => k_is)
    (case a24 => k_is)
    (case l24 => k_is)
    (case c24 => k_is)
    (case k24 => k_is)
    (case a25 => k_is)
    (case l25 => k_is)
    (case c25 => k_is)
    (case k25 => k_is)
    (case a26 => k_is)
    (case l26 => k_is)
    (case c26 => k_is)
    (case k26 => k_is)
    (case a27 => k_is)
    (case l27 => k_is)
    (case c27 => k_is)
    (case k27 => k_is)
    (case a28 => k_is)
    (case l28 => k_is)
    (case c28 => k_is)
    (case k28 => k_is)
    (case a29 => k_is)
    (case l29 => k_is)
    (case c29 => k_is)
    (case k29 => k_is)
    (case a30 => k_is)
    (case l30 => k_is)
    (case c30 => k_is)
    (case k30 => k_is)
    (case a31 => k_is)
    (case l31 => k_is)
    (case c31 => k_is)
    (case k31 => k_is)
    (case a32 => k_is)
    (case l32 => k_is)
    (case c32 => k_is)
    (case k32 => k_is)
    (case b0 => exact fun us hl => match us, hl with | [_], _ => rfl)
    (case b1 => exact fun us hl => match us, hl with | [_, _, _], _ => rfl)
    (case b2 => exact fun us hl => match us, hl with | [_], _ => rfl)
    (case b3 => exact fun us hl => match us, hl with | [_, _, _], _ => rfl)
    (case b4 => exact fun us hl => match us, hl with | [_], _ => rfl)
    (case b5 => exact fun us hl => match us, hl with | [_], _ => rfl)
    (case b6 => exact fun us hl => match us, hl with | [_], _ => rfl)
    (case b7 => exact fun us hl => match us, hl with | [_], _ => rfl)
    (case b8 => exact fun us hl => match us, hl with | [_], _ => rfl)
    (case b9 => exact fun us hl => match us, hl with | [_, _], _ => rfl)
    (case b10 => exact fun us hl => match us, hl with | [_, _], _ => rfl)
    (case b11 => exact fun us hl => match us, hl with | [_, _], _ => rfl)
    (case b12 => exact fun us hl => match us, hl with | [_, _, _], _ => rfl)
    (case b13 => exact fun us hl => match us, hl with | [_, _, _], _ => rfl)
    (case b14 => exact fun us hl => match us, hl with | [_, _, _], _ => rfl)
    (case b15 => exact fun us hl => match us, hl with | [_, _, _], _ => rfl)
    (case b16 => exact fun us hl => match us, hl with | [_, _, _], _ => rfl)
    (case b17 => exact fun us hl => match us, hl with | [_, _], _ => rfl)
    (case b18 => exact fun us hl => match us, hl with | [_, _], _ => rfl)
    (case b19 => exact fun us hl => match us, hl with | [_, _, _], _ => rfl)
    (case b20 => exact fun us hl => match us, hl with | [_, _, _], _ => rfl)
    (case b21 => exact fun us hl => match us, hl with | [_, _], _ => rfl)
    (case b22 => exact fun us hl => match us, hl with | [_, _], _ => rfl)
    (case b23 => exact fun us hl => match us, hl with | [_], _ => rfl)
    (case b24 => exact fun us hl => match us, hl with | [_, _], _ => rfl)
    (case b25 => exact fun us hl => match us, hl with | [_, _, _], _ => rfl)
    (case b26 => exact fun us hl => match us, hl with | [_, _], _ => rfl)
    (case b27 => exact fun us hl => match us, hl with | [_, _], _ => rfl)
    (case b28 => exact fun us hl => match us, hl with | [_, _, _, _], _ => rfl)
    (case b29 => exact fun us hl => match us, hl with | [_, _], _ => rfl)
    (case b30 => exact fun us hl => match us, hl with | [_], _ => rfl)
    (case b31 => exact fun us hl => match us, hl with | [_, _], _ => rfl)
    (case b32 => exact fun us hl => match us, hl with | [_], _ => rfl)
    (case T =>
      refine' ⟨PySem.W.mg_none_of KX gl ?t0, PySem.W.mg_none_of KX gl ?t1, PySem.W.mg_none_of KX gl ?t2, PySem.W.mg_none_of KX gl ?t3, PySem.W.mg_none_of KX gl ?t4, PySem.W.mg_none_of KX gl ?t5, PySem.W.mg_none_of KX gl ?t6, PySem.W.mg_none_of KX gl ?t7, PySem.W.mg_none_of KX gl ?t8, PySem.W.mg_none_of KX gl ?t9, PySem.W.mg_none_of KX gl ?t10, PySem.W.mg_none_of KX gl ?t11, PySem.W.mg_none_of KX gl ?t12, ⟨_, PySem.W.mg_of KX gl ?t13, ?r13⟩, ⟨_, PySem.W.mg_of KX gl ?t14, ?r14⟩, ⟨_, PySem.W.mg_of KX gl ?t15, ?r15⟩⟩
      (case t0 => k_is)
      (case t1 => k_is)
      (case t2 => k_is)
      (case t3 => k_is)
      (case t4 => k_is)
      (case t5 => k_is)
      (case t6 => k_is)
      (case t7 => k_is)
      (case t8 => k_is)
      (case t9 => k_is)
      (case t10 => k_is)
      (case t11 => k_is)
      (case t12 => k_is)
      (case t13 => k_is)
      (case r13 => exact ⟨_, rfl⟩)
      (case t14 => k_is)
      (case r14 => exact ⟨_, rfl⟩)
      (case t15 => k_is)
      (case r15 => exact ⟨_, rfl⟩))


