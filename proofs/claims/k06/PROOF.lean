import PyProof.Rows.All
import Wide.All
import OpenK.AllK
import Wide.FinOn
import PyProof.ReprReads
import PyProof.ReprText
import PyProof.ReprLen
import PyProof.ReprBulk
import PyProof.ReprRoads
import HandS.ForMost
import HandS.IsInst
import HandS.Wide
import HandS.StrMore
import HandS.Codes
import KE.DataMinMax
import HandS.TupAny
import HandS.TupMul
import HandS.Style
import HandS.Conv
import HandS.Walk
import HandS.Strs
import HandS.SetFor
import PyProof.Rows.SetFrom
import PySem.Challenge.RW_fingerbooks_k06_whole_numbers_of_levels
set_option Elab.async false
set_option linter.all false
set_option maxRecDepth 100000
set_option maxHeartbeats 2000000
namespace G
open PySem PySem.Spec PyProof.Rows L2

/-! ## Promises that hold where no text of an object is being written (guards empty) -/
structure FnG (P : Program) (w : World) (K : PySem.W.Frag) (mg : Str → Option Value) (base : Heap)
    (CX : CXT) (k : Nat) (f : Addr) (fd : FuncData) (ps : List Str) (sp : Sp) : Prop where
  len : ∀ xs H Q E, sp xs H Q E → xs.length = ps.length
  go : ∀ (A : Around) (out : List Env) (s : Shared) (H : Hp) (args : Args) (us : List Value) (xs : List V) (Q : VK) (E : XK),
    A.guards = some [] → Room k A → Env0 P w K mg base A out s H → BindsTo s fd args (ps.zip us) → Vals xs us → sp xs H Q E →
    codeAny (model P w) A (.call (.ref f) args) (CR CX out P w H s Q E) s

theorem FnG.ofOk {P w K mg base CX k f fd ps sp} (F : FnOk P w K mg base CX k f fd ps sp) : FnG P w K mg base CX k f fd ps sp :=
  ⟨F.len, fun A out s H args us xs Q E _ => F.run A out s H args us xs Q E⟩
theorem FnG.mono {P w K mg base CX j k f fd ps sp} (F : FnG P w K mg base CX j f fd ps sp) (h : j ≤ k) : FnG P w K mg base CX k f fd ps sp :=
  ⟨F.len, fun A out s H args us xs Q E hg hr => F.go A out s H args us xs Q E hg (hr.mono h)⟩

section
variable {X : Cx} {CX : CXT} {k : Nat} {f : Addr} {fd : FuncData} {ps : List Str} {sp : Sp} {dvs : List V} {ds : List Value} {E : XK}
theorem runG {pins : List (Addr × Obj)} {σ : L2.St} {H : Hp} {s : Shared} {Q : VK} {us : List Value} {xs : List V}
    (F : FnG X.prog X.w X.K X.mg X.base CX k f fd ps sp) (hgd : X.A.guards = some []) (hr : Room k X.A)
    (hb : Binds X.K fd ps ds) (hd : Vals dvs ds) (hx : Passes CX X E) (I : Inv X pins σ H s) (r : Vals xs us) (h : sp (xs ++ dvs) H Q E) :
    wpAny (model X.prog X.w) X.A (call (.ref f) us) (EP X pins σ Q) X.xe s := by
  have both : Vals (xs ++ dvs) (us ++ ds) := r.append hd
  have sz : (us ++ ds).length = ps.length := both.length.symm.trans (F.len _ _ _ _ h)
  have body := F.go X.A X.stack s H ⟨us, []⟩ (us ++ ds) (xs ++ dvs) Q E hgd hr I.env0 (hb s us I.kIn sz) both h
  refine wpAny_call (codeAny_mono body fun res t hq => ?_)
  match res, hq with
  | .error e, hq => exact hx pins σ H s e t I hq
  | .ok (.ret u), hq => exact I.after hq
  | .ok .next, hq => exact hq.elim
  | .ok .brk, hq => exact hq.elim
  | .ok .cont, hq => exact hq.elim

theorem pe_g {x : Str} {p pos : Pos} {e : Expr} {es : List Expr} {t : TA} (F : FnG X.prog X.w X.K X.mg X.base CX k f fd ps sp)
    (hgd : X.A.guards = some []) (hr : Room k X.A) (hg : Gl X x) (hm : X.mg x = some (.ref f)) (hk : PySem.W.keepIn X.K (.ref f) = true)
    (hb : Binds X.K fd ps ds) (hd : Vals dvs ds) (hx : Passes CX X E) (ha : PA X (e :: es) t)
    (hdb : (x == ("__debug__" : Str)) = false := by decide)
    (he : starEach (e :: es) X.env = (false, eval e X.env) :: starEach es X.env := by rfl)
    (hpl : (backTo pos (starEach es X.env)).any (·.1) = false := by rfl) :
    PE X (.Call (.Name x p) (e :: es) [] pos) (tCall sp dvs E t) :=
  ⟨fun pins s σ H Q I h => wpAny_Call_Name_kw (ld_glob I hg hm
    (PySem.W.callWith_K (h₀ := X.base) I.ok.mod.kin hk
      (thn (ha.run pos pins s σ H _ I h) fun us s1 ⟨xs, H1, I1, r, q⟩ => ⟨I1.kIn, runG F hgd hr hb hd hx I1 r q⟩) he hpl) hdb)⟩
theorem pe_g0 {x : Str} {p pos : Pos} (F : FnG X.prog X.w X.K X.mg X.base CX k f fd ps sp)
    (hgd : X.A.guards = some []) (hr : Room k X.A) (hg : Gl X x) (hm : X.mg x = some (.ref f)) (hk : PySem.W.keepIn X.K (.ref f) = true)
    (hb : Binds X.K fd ps ds) (hd : Vals dvs ds) (hx : Passes CX X E) (hdb : (x == ("__debug__" : Str)) = false := by decide) :
    PE X (.Call (.Name x p) [] [] pos) (tCall sp dvs E tNil) :=
  ⟨fun pins s σ H Q I h => wpAny_Call_Name_kw (ld_glob I hg hm (PySem.W.callWith_K0 I.kIn hk (runG (us := []) F hgd hr hb hd hx I .nil h)) hdb)⟩
end

/-- a def by its body, guards known -/
theorem okG {P : Program} {w : World} {K : PySem.W.Frag} {mg : Str → Option Value} {base : Heap} {x qual : Str} {st : Stmt} {f : Addr} {fd : FuncData}
    {N ps : List Str} {k : Nat} {sp : Sp} (F : Fun K x qual st f fd) (S : FnScope N ps (defScope st)) (len : ∀ xs H Q E, sp xs H Q E → xs.length = ps.length)
    (hbody : ∀ (cdv : Value) (A : Around) (out : List Env) (s : Shared) (H : Hp) (xs : List V) (Q : VK) (E : XK), A.guards = some [] →
      Room k (A.deeper (envOfC qual (defScope st) s.heap.objs.size f cdv)) → sp xs H Q E →
      ∃ t, PSs (cxOf CX0 P w K mg base N qual (defScope st) f cdv A out s H E).nox (defBody st) t ∧
        t { nx := fun _ H' => Q .non H', rt := Q } (start N xs) H) :
    FnG P w K mg base CX0 (k + 1) f fd ps sp := by
  obtain ⟨oc, od, kV, doc, pm, an, cdv, ct, osl, rfl, lk, hcd⟩ := F.ex
  constructor
  · exact len
  intro A out s H args us xs Q E gA hr e0 hb r hsp
  have old : ∀ b o, base.get? b = some o → s.heap.get? b = some o := fun b o q => (e0.bs b o q).1
  have KX : K.In s.heap := e0.mod.kin.keeps old
  have lim : s.heap.NoLimit := e0.mod.nolimit.keeps old
  refine codeAny_call_function hr.depth (KX _ _ lk) rfl S.co S.gen rfl (PySem.W.codeRec_of KX hcd) (hb _ _ _ _ ?_)
  refine wpAny_newFunctionEnv_cells S.kind (fun y hy => ?_) fun env he s1 x1 => ?_
  · have q := S.par y.1 (List.of_mem_zip (a := y.1) (b := y.2) hy).1
    exact q.elim .inl fun q => .inr ⟨q, PySem.W.cellsFrom_some _ _ _ (.inl q)⟩
  · subst he
    refine ⟨lim.keeps x1.toInCall.keep, codeAny_func ?_⟩
    obtain ⟨t, ht, hq⟩ := hbody cdv A out s H xs Q E gA (hr.deeper _) hsp
    have I := inv_start (CX := CX0) (P := P) (w := w) (K := K) (mg := mg) (base := base) (N := N) (ps := ps) (E := E) S hr.hd e0 (len _ _ _ _ hsp) r x1
    refine wpAny_mono (ht.nox.run [] s1 (start N xs) H _ I hq) (fun fl s2 hs => ?_) fun _ _ z => z
    match fl, hs with
    | .ret u, ⟨v, σ', H', J, rv, q⟩ => exact ⟨v, H', J.os, J.bare, J.base, J.hok, rv, q⟩
    | .next, ⟨σ', H', J, q⟩ => exact ⟨V.non, H', J.os, J.bare, J.base, J.hok, rfl, q⟩
    | .brk, ⟨_, _, _, q⟩ => exact q.elim
    | .cont, ⟨_, _, _, q⟩ => exact q.elim

/-! ## the end of a row -/
theorem endG {l : PySem.W.OpenLaw} {n k : Nat} {q : Program} {loose : List Str} {XP : (Str → Option Value) → Heap → Prop} {YP : World → Heap → Prop} {d : DefRec}
    {K : Params → PySem.W.Frag} {sp : PySem.W.Frag → Sp} {x : Str}
    (hn : l.most = some n) (hn2 : n ≤ sizeLine) (hdf : d.params.defaults = []) (hr : Room k callerA)
    (hY : ∀ (w : World) (h : Heap), YP w h → (K w.params).In h)
    (F : ∀ (w : World) (mg : Str → Option Value) (fa : Addr) (h : Heap), (K w.params).In h → h.Ns mainGlobals mg → mg d.name = some (.ref fa) →
      ∃ fd : FuncData, (∀ (s : Shared) (u : Value), BindsTo s fd ⟨[u], []⟩ [(x, u)]) ∧
        ∀ base : Heap, (K w.params).In base → base.Ns mainGlobals mg → FnG l.prog w (K w.params) mg base CX0 k fa fd [x] (sp (K w.params)))
    (hsp : ∀ (K : PySem.W.Frag) (H : Hp) (a : Addr) (ns : List Int), ns.length ≤ n → SqL K H a (ns.map V.int) →
      sp K [.ref a] H (fun v _ => v = .bl true) fun _ _ _ => False) :
    PySem.W.WalkO q loose XP YP l.row.toRowW d [] (fun f vs => PySem.call f vs) := by
  refine Att.attach_call hn hdf fun w s0 s1 mg mb fa o pm cd doc a vs ns gr Y ho hd hcd hmg ha hi hl hgn => ?_
  have KX := hY w _ Y
  obtain ⟨fd, hbind, F⟩ := F w mg fa _ KX gr.T.g hmg
  have rv := vals_ints hi
  have lenV := hi.length
  have nsz : ns.length ≤ sizeLine := Nat.le_trans hl hn2
  -- the tracked heap T: nothing, or the script alone
  have main : ∀ T : Hp, (∀ b, T b = none ∨ ∃ ob xs, T b = some (.frz ob (.lst xs))) → SqL (K w.params) T a (ns.map V.int) → HOk l.prog w T s1.heap →
      (∀ b, T b ≠ none → b = a) → (T a ≠ none → (K w.params).lookup a = none) →
      codeAny (model l.prog w) callerA (.call (.ref fa) ⟨[.ref a], []⟩)
        (fun r t => r = .ok (.ret (.bool true)) ∧ OldK s1.heap t.heap ∧ t.os = s1.os ∧ AllBare t.gens) s1 := by
    intro T only hS hok only_a notK
    have keepD : ∀ {b : Addr} {ob : Obj}, s1.heap.get? b = some ob → (∃ es ep, ob.data = .dict es ep) → (hidT s1.heap T).get? b = some ob := by
      intro b ob e ⟨es, ep, ed⟩
      refine hidT_get e ?_
      match q : T b with
      | none => rfl
      | some u =>
        have hb : b = a := only_a b (by rw [q]; exact Option.some_ne_none _)
        subst hb
        rw [ha] at e
        cases e
        cases (show Data.seq vs.toArray _ = Data.dict es ep from ed)
    have nsT : ∀ {b : Addr} {m : Str → Option Value}, s1.heap.Ns b m → (hidT s1.heap T).Ns b m := by
      rintro b m ⟨ob, es, ep, e, ed, r⟩
      exact ⟨ob, es, ep, keepD e ⟨es, ep, ed⟩, ed, r⟩
    have inT : (K w.params).In (hidT s1.heap T) := by
      intro b ob e
      refine hidT_get (KX b ob e) ?_
      match q : T b with
      | none => rfl
      | some u =>
        have hb : b = a := only_a b (by rw [q]; exact Option.some_ne_none _)
        subst hb
        rw [notK (by rw [q]; exact Option.some_ne_none _)] at e
        cases e
    have nolim : (hidT s1.heap T).NoLimit := by
      obtain ⟨mc, h1, h2⟩ := gr.T.nolimit
      exact ⟨mc, nsT h1, h2⟩
    have md : Mod (K w.params) mg (hidT s1.heap T) := ⟨inT, nsT gr.T.g, ⟨mb, nsT gr.T.b, gr.T.builtins⟩, nolim⟩
    have e0 : Env0 l.prog w (K w.params) mg (hidT s1.heap T) callerA [] s1 T := by
      refine ⟨rfl, md, fun b ob e => of_hidT e, Nat.le_of_eq (hidT_size _ _), trivial, fun b hb => ?_, hok, .of_eq hgn⟩
      cases (show b ∈ ([] : List Addr) from hb)
    have run := (F _ inT (nsT gr.T.g)).go callerA [] s1 T ⟨[.ref a], []⟩ [.ref a] [.ref a] _ _ rfl hr e0 (hbind s1 (.ref a)) (.cons rfl .nil) (hsp (K w.params) T a ns hl hS)
    refine codeAny_mono run fun res t hq => ?_
    match res, hq with
    | .error e, hq => exact hq.elim
    | .ok .next, hq => exact hq.elim
    | .ok .brk, hq => exact hq.elim
    | .ok .cont, hq => exact hq.elim
    | .ok (.ret u), ⟨v, T', os, bare, un, hok', rr, qq⟩ =>
      obtain rfl : v = .bl true := qq
      obtain rfl : u = Value.bool true := rr
      refine ⟨rfl, OldK.of_keep fun b ob e => ?_, os, bare⟩
      match q : T b with
      | none => exact un.keep b ob e q (fun z => nomatch (show b ∈ ([] : List Addr) from z)) (fun z => nomatch z)
      | some u =>
        rcases only b with z | ⟨fo, xs, z⟩
        · rw [q] at z
          cases z
        · obtain ⟨e1, _⟩ := hok b _ z
          obtain ⟨e2, _⟩ := hok' b _ (un.frzs b fo _ z)
          rw [e] at e1
          cases e1
          exact e2
  match hk : (K w.params).lookup a with
  | some ob =>
    have e := KX a ob hk
    rw [ha] at e
    cases e
    refine main (fun _ => none) (fun _ => .inl rfl) (.inr ⟨_, vs.toArray, _, hk, rfl, rfl, rfl, ?_, ?_⟩) (fun b u z => nomatch (show (none : Option HO) = some u from z)) (fun b z => absurd rfl z) (fun z => absurd rfl z)
    · rw [List.size_toArray, lenV]
      exact nsz
    · simpa using rv
  | none =>
    have atA : ∀ b, b = a → (if b = a then some (HO.frz { cls := .type "list", data := .seq vs.toArray } (.lst (ns.map V.int))) else none) = some (HO.frz { cls := .type "list", data := .seq vs.toArray } (.lst (ns.map V.int))) := fun b hb => if_pos hb
    have offA : ∀ b, b ≠ a → (if b = a then some (HO.frz { cls := .type "list", data := .seq vs.toArray } (.lst (ns.map V.int))) else none) = none := fun b hb => if_neg hb
    refine main (fun b => if b = a then some (.frz { cls := .type "list", data := .seq vs.toArray } (.lst (ns.map V.int))) else none) (fun b => ?_) (.inl (.inr ⟨{ cls := .type "list", data := .seq vs.toArray }, atA a rfl⟩)) (fun b u z => ?_) (fun b z => ?_) fun _ => hk
    · by_cases hb : b = a
      · exact .inr ⟨_, _, atA b hb⟩
      · exact .inl (offA b hb)
    · by_cases hb : b = a
      · have z2 := (atA b hb).symm.trans z
        cases z2
        subst hb
        exact ⟨ha, by rw [List.length_map]; exact nsz, vs, _, rv, ha⟩
      · have z2 := (offA b hb).symm.trans z
        cases z2
    · by_cases hb : b = a
      · exact hb
      · exact absurd (offA b hb) z

/-! ## repr of data -/
mutual
/-- data whose text is written: no dict, numbers and texts of bounded size -/
def nice : PyData → Bool
  | .none | .bool _ => true
  | .int i => decide (i.natAbs.log2 < 1200)
  | .str x => x.cps.toList.all fun c => decide (c < 16 ^ 8)
  | .list xs | .tuple xs => niceAll xs
  | .dict _ => false
def niceAll : List PyData → Bool
  | [] => true
  | x :: xs => nice x && niceAll xs
end
structure Shw (d : PyData) : Prop where
  noDict : d.hasDict = false
  able : d.showable = true
  deep : d.depth ≤ 60
  fits : d.shown.length ≤ sizeLine
mutual
theorem nice_facts : ∀ d : PyData, nice d = true → d.hasDict = false ∧ d.showable = true ∧ d.leavesShort 1201 = true
  | .none, _ => by simp [PyData.hasDict, PyData.showable, PyData.leavesShort]
  | .bool _, _ => by simp [PyData.hasDict, PyData.showable, PyData.leavesShort]
  | .int i, h => by
    have h2 : i.natAbs.log2 < 1200 := by simpa [nice] using h
    have h3 := int_text_length_le (a := i) (by decide) h2
    have h4 : (PyData.shown (.int i)).length ≤ 1201 := by
      rw [PyData.shown_int]
      rw [PySem.ofString_length]
      exact h3
    refine ⟨by simp [PyData.hasDict], ?_, ?_⟩
    · simp only [PyData.showable]
      exact decide_eq_true (by omega)
    · simp only [PyData.leavesShort]
      exact decide_eq_true h4
  | .str x, h => by
    refine ⟨by simp [PyData.hasDict], by simp [PyData.showable], ?_⟩
    simpa only [PyData.leavesShort, nice] using h
  | .list xs, h => by
    have q := nice_factsAll xs (by simpa only [nice] using h)
    exact ⟨by simpa only [PyData.hasDict] using q.1, by simpa only [PyData.showable] using q.2.1, by simpa only [PyData.leavesShort] using q.2.2⟩
  | .tuple xs, h => by
    have q := nice_factsAll xs (by simpa only [nice] using h)
    exact ⟨by simpa only [PyData.hasDict] using q.1, by simpa only [PyData.showable] using q.2.1, by simpa only [PyData.leavesShort] using q.2.2⟩
  | .dict _, h => by simp [nice] at h
theorem nice_factsAll : ∀ ds : List PyData, niceAll ds = true → PyData.hasDictAll ds = false ∧ PyData.showableAll ds = true ∧ PyData.leavesShortAll 1201 ds = true
  | [], _ => by simp [PyData.hasDictAll, PyData.showableAll, PyData.leavesShortAll]
  | x :: xs, h => by
    have h' : nice x = true ∧ niceAll xs = true := by simpa [niceAll] using h
    obtain ⟨a1, a2, a3⟩ := nice_facts x h'.1
    obtain ⟨b1, b2, b3⟩ := nice_factsAll xs h'.2
    simp only [PyData.hasDictAll, PyData.showableAll, PyData.leavesShortAll, a1, a2, a3, b1, b2, b3, Bool.or_self, Bool.and_self, and_self]
end
theorem shw {d : PyData} (h : nice d = true) (hd : d.depth ≤ 60) (hb : d.bulk ≤ 10000) : Shw d := by
  obtain ⟨a1, a2, a3⟩ := nice_facts d h
  refine ⟨a1, a2, hd, ?_⟩
  have q := PyData.shown_le_bulk 1201 (by decide) d a3
  have e2 : 16777216 ≤ sizeLine := by decide
  omega
section
variable {X : Cx}
def rRepr (K : PySem.W.Frag) : List V → Hp → VK → Prop := fun xs H Q => ∃ (x : V) (d : PyData), xs = [x] ∧ Dp K H x d ∧ Shw d ∧ Q (.str d.shown) H
theorem call_repr (hgd : X.A.guards = some []) (hu : X.A.units + 64 < cLine) : CallR X (.builtin "repr") (rRepr X.K) := by
  intro pins s σ H xs us Q I r h
  obtain ⟨x, d, rfl, hd, ⟨hn, hs, hp, hz⟩, q⟩ := h
  obtain ⟨u, rfl, ru⟩ := vals1 r
  obtain ⟨as, rd⟩ := Dp.reads I d x u hd ru
  have fin : ∀ h' t tk, (∀ b o, s.heap.get? b = some o → h'.get? b = some o) → EP X pins σ Q (.str d.shown t) { s with heap := h', toks := tk } :=
    fun h' t tk kp => ⟨.str d.shown, H, I.kept kp, ⟨t, rfl⟩, q⟩
  cases hd with
  | lst hl ha =>
    cases (show u = Value.ref _ from ru)
    exact repr_of_reads' rd hs (PyData.noDict_hsm hn) hgd (by omega) (fun _ _ e => e) fin hz
  | tup hl ha =>
    cases (show u = Value.ref _ from ru)
    exact repr_of_reads' rd hs (PyData.noDict_hsm hn) hgd (by omega) (fun _ _ e => e) fin hz
  | int i =>
    obtain ⟨t, rfl⟩ := (show ∃ t, u = Value.int i t from ru)
    have e : (PyData.int i).shown = ((toString i : String) : Str) := PyData.shown_int i
    rw [e] at q
    exact PySem.P.repr_of_int (by simpa [PyData.showable] using hs) ⟨.str _, H, I.tok _, ⟨_, rfl⟩, q⟩
  | non =>
    cases (show u = Value.none from ru)
    rw [PyData.shown_none] at q
    exact PySem.P.repr_of_none ⟨.str _, H, I.tok _, ⟨_, rfl⟩, q⟩
  | bl b =>
    cases (show u = Value.bool b from ru)
    rw [PyData.shown_bool] at q
    refine PySem.P.repr_of_bool ⟨.str _, H, I.tok _, ⟨_, rfl⟩, ?_⟩
    cases b <;> exact q
  | str x =>
    obtain ⟨t, rfl⟩ := (show ∃ t, u = Value.str x t from ru)
    rw [PyData.shown_str] at q hz
    exact PySem.P.repr_of_str ⟨.str _, H, I.tok _, ⟨_, rfl⟩, q⟩ hz
end
/-! ## Defs of the text as constants -/
structure DefAt (K : PySem.W.Frag) (mg : Str → Option Value) (x : Str) (st : Stmt) (ps : List Str) : Prop where
  ex : ∃ f fd, Fun K x x st f fd ∧ mg x = some (.ref f) ∧ ∀ us : List Value, us.length = ps.length → bindArgs fd ⟨us, []⟩ = pure (ps.zip us)
theorem defAt {K : PySem.W.Frag} {h : Heap} {mg : Str → Option Value} {x : Str} {st : Stmt} {ps : List Str} {f : Addr} {oc : Value} {od an : Option Addr} {osl : Array (Option Value)}
    {kV doc pm cdv ct : Value} (KX : K.In h) (gl : h.Ns mainGlobals mg)
    (hb : ∀ us : List Value, us.length = ps.length → bindArgs (PySem.W.fnOf x x (defArgs st) (defBody st) (defScope st) .none kV doc pm an cdv ct) ⟨us, []⟩ = pure (ps.zip us))
    (a : PySem.W.nsIn K mainGlobals x = some (some (.ref f)))
    (l : K.lookup f = some ⟨oc, od, .func (PySem.W.fnOf x x (defArgs st) (defBody st) (defScope st) .none kV doc pm an cdv ct), osl⟩)
    (c : PySem.W.codeIn K cdv x = true) (k : PySem.W.keepIn K (.ref f) = true) : DefAt K mg x st ps :=
  ⟨f, _, fun_mk l c k, PySem.W.mg_of KX gl a, hb⟩
structure CalG (P : Program) (w : World) (K : PySem.W.Frag) (mg : Str → Option Value) (base : Heap) (k : Nat) (x : Str) (ps : List Str) (sp : Sp) : Prop where
  ex : ∃ f fd, FnG P w K mg base CX0 k f fd ps sp ∧ mg x = some (.ref f) ∧ PySem.W.keepIn K (.ref f) = true ∧ Binds K fd ps []
theorem calOk {P : Program} {w : World} {K : PySem.W.Frag} {mg : Str → Option Value} {base : Heap} {x : Str} {st : Stmt} {N ps : List Str} {k : Nat} {sp : Sp}
    (D : DefAt K mg x st ps) (S : FnScope N ps (defScope st)) (len : ∀ xs H Q E, sp xs H Q E → xs.length = ps.length)
    (hbody : ∀ (f : Addr) (cdv : Value) (A : Around) (out : List Env) (s : Shared) (H : Hp) (xs : List V) (Q : VK) (E : XK), A.guards = some [] →
      Room k (A.deeper (envOfC x (defScope st) s.heap.objs.size f cdv)) → sp xs H Q E →
      ∃ t, PSs (cxOf CX0 P w K mg base N x (defScope st) f cdv A out s H E).nox (defBody st) t ∧
        t { nx := fun _ H' => Q .non H', rt := Q } (start N xs) H) : CalG P w K mg base (k + 1) x ps sp := by
  obtain ⟨f, fd, F, m, b⟩ := D.ex
  exact ⟨f, fd, okG F S len (hbody f), m, F.kp, Binds.all b⟩
section
variable {X : Cx} {k j : Nat} {ps : List Str} {sp : Sp} {x : Str} {p pos : Pos} {e : Expr} {es : List Expr} {t : TA}
theorem pe_k (c : CalG X.prog X.w X.K X.mg X.base k x ps sp) (hgd : X.A.guards = some []) (hr : Room j X.A) (hk : k ≤ j) (hg : Gl X x) (ha : PA X (e :: es) t)
    (hdb : (x == ("__debug__" : Str)) = false := by decide)
    (he : starEach (e :: es) X.env = (false, eval e X.env) :: starEach es X.env := by rfl)
    (hpl : (backTo pos (starEach es X.env)).any (·.1) = false := by rfl) :
    PE X (.Call (.Name x p) (e :: es) [] pos) (tCall sp [] E0 t) := by
  obtain ⟨f, fd, F, m, kp, b⟩ := c.ex
  exact pe_g F hgd (hr.mono hk) hg m kp b .nil pass0 ha hdb he hpl
theorem pe_k0 (c : CalG X.prog X.w X.K X.mg X.base k x ps sp) (hgd : X.A.guards = some []) (hr : Room j X.A) (hk : k ≤ j) (hg : Gl X x)
    (hdb : (x == ("__debug__" : Str)) = false := by decide) : PE X (.Call (.Name x p) [] [] pos) (tCall sp [] E0 tNil) := by
  obtain ⟨f, fd, F, m, kp, b⟩ := c.ex
  exact pe_g0 F hgd (hr.mono hk) hg m kp b .nil pass0 hdb
end
/-- the law's own def, at the address that the row names -/
theorem lawOk {P : Program} {w : World} {K : PySem.W.Frag} {mg : Str → Option Value} {x y : Str} {st : Stmt} {N : List Str} {k : Nat} {sp : Sp} {fa : Addr}
    (hf : mg x = some (.ref fa)) (D : DefAt K mg x st [y]) (S : FnScope N [y] (defScope st)) (len : ∀ xs H Q E, sp xs H Q E → xs.length = [y].length)
    (hbody : ∀ base : Heap, K.In base → base.Ns mainGlobals mg → ∀ (f : Addr) (cdv : Value) (A : Around) (out : List Env) (s : Shared) (H : Hp) (xs : List V) (Q : VK) (E : XK), A.guards = some [] →
      Room k (A.deeper (envOfC x (defScope st) s.heap.objs.size f cdv)) → sp xs H Q E →
      ∃ t, PSs (cxOf CX0 P w K mg base N x (defScope st) f cdv A out s H E).nox (defBody st) t ∧
        t { nx := fun _ H' => Q .non H', rt := Q } (start N xs) H) :
    ∃ fd : FuncData, (∀ (s : Shared) (u : Value), BindsTo s fd ⟨[u], []⟩ [(y, u)]) ∧
      ∀ base : Heap, K.In base → base.Ns mainGlobals mg → FnG P w K mg base CX0 (k + 1) fa fd [y] sp := by
  obtain ⟨f, fd, F, m, b⟩ := D.ex
  obtain rfl : f = fa := by
    rw [m] at hf
    cases hf
    rfl
  exact ⟨fd, fun s u => .of_eq (b [u] rfl), fun base h1 h2 => okG F S len (hbody base h1 h2 f)⟩

section
variable {X : Cx} {x : Str} {pos : Pos}
theorem pe_gv {v : V} (hg : Gl X x) (h : ∃ u, X.mg x = some u ∧ RelV v u) (hd : (x == ("__debug__" : Str)) = false := by decide) : PE X (.Name x pos) (tC v) :=
  let ⟨_, hm, r⟩ := h
  pe_glob hg hm r hd
theorem pe_ty (n : String) (hg : Gl X x) (hm : X.mg x = none) (hv : bootBuiltins x = some (.type n)) (hn : x ≠ "__name__" := by decide) (hd : (x == ("__debug__" : Str)) = false := by decide) : PE X (.Name x pos) (tC (.ty n)) :=
  pe_bltn hg hm hv rfl hn hd
end
/-! ## Heaps: what is new, what is rolled -/
theorem same_new {H : Hp} {p : Addr} {o : HO} (h : H p = none) : Same H (upd H p o) := fun b u e => by
  rw [upd_ne (ne_of_none e h)]
  exact e
mutual
theorem Dp.grow {K : PySem.W.Frag} {H H' : Hp} (s : Same H H') : ∀ {x : V} {d : PyData}, Dp K H x d → Dp K H' x d
  | _, _, .non => .non
  | _, _, .bl b => .bl b
  | _, _, .int i => .int i
  | _, _, .str x => .str x
  | _, _, .lst h a => .lst (s.seq h) (DpAll.grow s a)
  | _, _, .tup h a => .tup (by
      rcases h with (h | ⟨o, h⟩) | h
      · exact .inl (.inl (s _ _ h))
      · exact .inl (.inr ⟨o, s _ _ h⟩)
      · exact .inr h) (DpAll.grow s a)
theorem DpAll.grow {K : PySem.W.Frag} {H H' : Hp} (s : Same H H') : ∀ {xs : List V} {ds : List PyData}, DpAll K H xs ds → DpAll K H' xs ds
  | _, _, .nil => .nil
  | _, _, .cons a b => .cons (Dp.grow s a) (DpAll.grow s b)
end
/-- the heap without what stands at d -/
def hide (d : Addr) (H : Hp) : Hp := fun b => if b = d then none else H b
theorem hide_ne {d b : Addr} {H : Hp} (h : b ≠ d) : hide d H b = H b := if_neg h
theorem hide_at {d : Addr} {H : Hp} : hide d H d = none := if_pos rfl
theorem hide_le {d : Addr} {H : Hp} : Same (hide d H) H := fun b o e => by
  by_cases h : b = d
  · subst h
    rw [hide_at] at e
    cases e
  · rw [hide_ne h] at e
    exact e
/-- the dice at d: three numbers -/
def DiceAt (H : Hp) (d : Addr) : Prop := ∃ l s c : Int, H d = some (.lst [.int l, .int s, .int c])
/-- from H to H': the dice at d may have been rolled, what else stood stands -/
structure Mv (d : Addr) (H H' : Hp) : Prop where
  same : Same (hide d H) (hide d H')
  dice : DiceAt H' d
theorem Mv.refl {d : Addr} {H : Hp} (h : DiceAt H d) : Mv d H H := ⟨Same.refl _, h⟩
theorem Mv.trans {d : Addr} {H H1 H2 : Hp} (a : Mv d H H1) (b : Mv d H1 H2) : Mv d H H2 := ⟨a.same.trans b.same, b.dice⟩
theorem Mv.get {d : Addr} {H H' : Hp} (a : Mv d H H') {b : Addr} {o : HO} (n : b ≠ d) (h : H b = some o) : H' b = some o := by
  have := a.same b o (by rw [hide_ne n]; exact h)
  rw [hide_ne n] at this
  exact this
theorem Mv.free {d : Addr} {H H' : Hp} (a : Mv d H H') {p : Addr} (h : H' p = none) : H p = none := by
  by_cases e : p = d
  · subst e
    obtain ⟨l, s, c, q⟩ := a.dice
    rw [q] at h
    cases h
  · match q : H p with
    | none => rfl
    | some o =>
      rw [a.get e q] at h
      cases h
theorem DiceAt.ne {d p : Addr} {H : Hp} (h : DiceAt H d) (n : H p = none) : p ≠ d := fun e => by
  obtain ⟨l, s, c, q⟩ := h
  rw [e, q] at n
  cases n
theorem hide_new {d p : Addr} {H : Hp} {o : HO} (n : p ≠ d) : hide d (upd H p o) = upd (hide d H) p o := by
  funext b
  by_cases h1 : b = d
  · subst h1
    rw [hide_at, upd_ne n.symm, hide_at]
  · rw [hide_ne h1]
    by_cases h2 : b = p
    · subst h2
      rw [upd_same, upd_same]
    · rw [upd_ne h2, upd_ne h2, hide_ne h1]
theorem Mv.new {d p : Addr} {H H' : Hp} {o : HO} (a : Mv d H H') (n : H' p = none) : Mv d H (upd H' p o) := by
  have ne := a.dice.ne n
  refine ⟨fun b u e => ?_, ?_⟩
  · rw [hide_new ne]
    refine same_new ?_ b u (a.same b u e)
    rw [hide_ne ne]
    exact n
  · obtain ⟨l, s, c, q⟩ := a.dice
    exact ⟨l, s, c, by rw [upd_ne ne.symm]; exact q⟩
/-- an own list (new since H) changed -/
theorem Mv.set {d p : Addr} {H H' : Hp} {o : HO} (a : Mv d H H') (n : H p = none) (ne : p ≠ d) : Mv d H (upd H' p o) := by
  refine ⟨fun b u e => ?_, ?_⟩
  · rw [hide_new ne]
    have nb : b ≠ p := fun q => by
      rw [q, hide_ne ne, n] at e
      cases e
    rw [upd_ne nb]
    exact a.same b u e
  · obtain ⟨l, s, c, q⟩ := a.dice
    exact ⟨l, s, c, by rw [upd_ne ne.symm]; exact q⟩
theorem same_new2 {H : Hp} {p : Addr} {o u : HO} (h : H p = none) : Same H (upd (upd H p o) p u) := by
  rw [upd_upd]
  exact same_new h
theorem Mv.new2 {d p : Addr} {H H' : Hp} {o u : HO} (a : Mv d H H') (n : H' p = none) : Mv d H (upd (upd H' p o) p u) := by
  rw [upd_upd]
  exact a.new n
theorem Mv.rolled {d : Addr} {H H' : Hp} {l s c : Int} (a : Mv d H H') : Mv d H (upd H' d (.lst [.int l, .int s, .int c])) := by
  refine ⟨fun b u e => ?_, l, s, c, upd_same⟩
  have q := a.same b u e
  by_cases h : b = d
  · subst h
    rw [hide_at] at q
    cases q
  · rw [hide_ne h] at q ⊢
    rw [upd_ne h]
    exact q
theorem Mv.sql {K : PySem.W.Frag} {d a : Addr} {H H' : Hp} {xs : List V} (m : Mv d H H') (n : a ≠ d) (h : SqL K H a xs) : SqL K H' a xs := by
  rcases h with (h | ⟨o, h⟩) | h
  · exact .inl (.inl (m.get n h))
  · exact .inl (.inr ⟨o, m.get n h⟩)
  · exact .inr h
theorem Mv.dp {K : PySem.W.Frag} {d : Addr} {H H' : Hp} {x : V} {dat : PyData} (m : Mv d H H') (h : Dp K (hide d H) x dat) : Dp K (hide d H') x dat := Dp.grow m.same h
theorem Dp.seen {K : PySem.W.Frag} {d : Addr} {H : Hp} {x : V} {dat : PyData} (h : Dp K (hide d H) x dat) : Dp K H x dat := Dp.grow hide_le h

theorem mul60 : CMulW (10 ^ Int.toNat 60) (10 ^ Int.toNat 60) := by
  unfold CMulW
  decide +kernel
theorem pos60 : (0 : Int) < 10 ^ Int.toNat 60 * 10 ^ Int.toNat 60 := by decide +kernel
theorem mul45 : CMulW (10 ^ Int.toNat 45) (10 ^ Int.toNat 45) := by
  unfold CMulW
  decide +kernel
/-! ## the promises of the dice -/
def spDice (K : PySem.W.Frag) : Sp := fun vs H Q _ => ∃ (a : Addr) (ns : List Int) (i : Nat), vs = [.ref a, .int (i : Int)] ∧ SqL K H a (ns.map V.int) ∧ ns.length ≤ 1000 ∧
  ∀ (p : Addr) (l s c : Int), H p = none → Q (.ref p) (upd H p (.lst [.int l, .int s, .int c]))
def spRoll : Sp := fun vs H Q _ => ∃ (d : Addr) (t : Int), vs = [.ref d, .int t] ∧ DiceAt H d ∧ 0 < t ∧ t.natAbs.log2 < 9000 ∧
  ∀ (r : Int) (H' : Hp), 0 ≤ r → r < t → Mv d H H' → (∀ b, H b = none → H' b = none) → Q (.int r) H'
def spPick (K : PySem.W.Frag) : Sp := fun vs H Q _ => ∃ (d a : Addr) (xs : List V), vs = [.ref d, .ref a] ∧ DiceAt H d ∧ SqL K H a xs ∧ a ≠ d ∧ 0 < xs.length ∧ xs.length ≤ 1000 ∧
  ∀ (i : Nat) (x : V) (H' : Hp), xs[i]? = some x → Mv d H H' → (∀ b, H b = none → H' b = none) → Q x H'
theorem DpAll.map {K : PySem.W.Frag} {H : Hp} {α : Type} (f : α → V) (g : α → PyData) : ∀ (xs : List α), (∀ x ∈ xs, Dp K H (f x) (g x)) → DpAll K H (xs.map f) (xs.map g)
  | [], _ => .nil
  | x :: r, h => .cons (h x List.mem_cons_self) (DpAll.map f g r fun y hy => h y (List.mem_cons_of_mem _ hy))
theorem canAll {α : Type} (g : α → PyData) : ∀ (xs : List α), (∀ x ∈ xs, (g x).canLay0 = true) → PyData.canLayAll0 (xs.map g) = true
  | [], _ => by simp [PyData.canLayAll0]
  | x :: r, h => by
    simp only [List.map_cons, PyData.canLayAll0, h x List.mem_cons_self, canAll g r fun y hy => h y (List.mem_cons_of_mem _ hy), Bool.and_self]
theorem depthAll0 {α : Type} (n : Nat) (g : α → PyData) : ∀ (xs : List α), (∀ x ∈ xs, (g x).depth ≤ n) → PyData.depthAll (xs.map g) ≤ n
  | [], _ => by simp [PyData.depthAll]
  | x :: r, h => by
    have h1 := h x List.mem_cons_self
    have h2 := depthAll0 n g r fun y hy => h y (List.mem_cons_of_mem _ hy)
    simp only [List.map_cons, PyData.depthAll]
    omega

/-! ## readings by statements: what an expression's reading hands on is said in one place -/
section
variable {te : TE} {tt : TT} {i : Nat} {t1 t2 rest : TS} {D : Ends} {σ : L2.St} {H : Hp}
theorem go_nx {t : TS} {r : VK} {b c : L2.St → Hp → Prop} (h : t D σ H) : Ends.nx ⟨t D, r, b, c⟩ σ H := h
theorem a_set (R : V → Hp → Prop) (h : ∀ Q' : VK, (∀ v H', R v H' → Q' v H') → te σ H Q') (k : ∀ v H', R v H' → rest D (σ.set i (some v)) H') :
    tSeq (tAsg te (gName i)) rest D σ H := h _ k
theorem a_set1 (R : V → Hp → Prop) (h : ∀ Q' : VK, (∀ v H', R v H' → Q' v H') → te σ H Q') (k : ∀ v H', R v H' → D.nx (σ.set i (some v)) H') :
    tAsg te (gName i) D σ H := h _ k
theorem a_ret (R : V → Hp → Prop) (h : ∀ Q' : VK, (∀ v H', R v H' → Q' v H') → te σ H Q') (k : ∀ v H', R v H' → D.rt v H') : tRet te D σ H := h _ k
theorem a_if (R : Bool → Hp → Prop) (h : ∀ Q' : Bool → Hp → Prop, (∀ b H', R b H' → Q' b H') → tt σ H Q') (k1 : ∀ H', R true H' → t1 { D with nx := rest D } σ H') (k2 : ∀ H', R false H' → t2 { D with nx := rest D } σ H') :
    tSeq (tIfS tt t1 t2) rest D σ H := h _ fun b H' r => by
  cases b with
  | true => exact iteT (k1 H' r)
  | false => exact iteF (k2 H' r)
theorem a_if1 (R : Bool → Hp → Prop) (h : ∀ Q' : Bool → Hp → Prop, (∀ b H', R b H' → Q' b H') → tt σ H Q') (k1 : ∀ H', R true H' → t1 D σ H') (k2 : ∀ H', R false H' → t2 D σ H') :
    tIfS tt t1 t2 D σ H := h _ fun b H' r => by
  cases b with
  | true => exact iteT (k1 H' r)
  | false => exact iteF (k2 H' r)
end
end G

set_option Elab.async false
set_option linter.all false
set_option maxRecDepth 100000
set_option maxHeartbeats 2000000
namespace G
open PySem PySem.Spec PyProof.Rows L2
/-! ## values as data, dicts among them -/
def keyD : Key → PyData
  | .inl i => .int i
  | .inr z => .str z
mutual
inductive Dx (H : Hp) : V → PyData → Prop
  | non : Dx H .non .none
  | bl (b : Bool) : Dx H (.bl b) (.bool b)
  | int (i : Int) : Dx H (.int i) (.int i)
  | str (x : Str) : Dx H (.str x) (.str x)
  | lst {a : Addr} {xs : List V} {ds : List PyData} : H a = some (.lst xs) → DxAll H xs ds → Dx H (.ref a) (.list ds)
  | tup {a : Addr} {xs : List V} {ds : List PyData} : H a = some (.tup xs) → DxAll H xs ds → Dx H (.ref a) (.tuple ds)
  | dct {a : Addr} {kvs : List (Key × V)} {ps : List (PyData × PyData)} : H a = some (.dK kvs) → DxKv H kvs ps → Dx H (.ref a) (.dict ps)
inductive DxAll (H : Hp) : List V → List PyData → Prop
  | nil : DxAll H [] []
  | cons {v : V} {vs : List V} {d : PyData} {ds : List PyData} : Dx H v d → DxAll H vs ds → DxAll H (v :: vs) (d :: ds)
inductive DxKv (H : Hp) : List (Key × V) → List (PyData × PyData) → Prop
  | nil : DxKv H [] []
  | cons {k : Key} {v : V} {r : List (Key × V)} {d : PyData} {ps : List (PyData × PyData)} : Dx H v d → DxKv H r ps → DxKv H ((k, v) :: r) ((keyD k, d) :: ps)
end
mutual
theorem Dx.grow {H H' : Hp} (s : Same H H') : ∀ {x : V} {d : PyData}, Dx H x d → Dx H' x d
  | _, _, .non => .non
  | _, _, .bl b => .bl b
  | _, _, .int i => .int i
  | _, _, .str x => .str x
  | _, _, .lst h a => .lst (s _ _ h) (DxAll.grow s a)
  | _, _, .tup h a => .tup (s _ _ h) (DxAll.grow s a)
  | _, _, .dct h a => .dct (s _ _ h) (DxKv.grow s a)
theorem DxAll.grow {H H' : Hp} (s : Same H H') : ∀ {xs : List V} {ds : List PyData}, DxAll H xs ds → DxAll H' xs ds
  | _, _, .nil => .nil
  | _, _, .cons a b => .cons (Dx.grow s a) (DxAll.grow s b)
theorem DxKv.grow {H H' : Hp} (s : Same H H') : ∀ {xs : List (Key × V)} {ds : List (PyData × PyData)}, DxKv H xs ds → DxKv H' xs ds
  | _, _, .nil => .nil
  | _, _, .cons a b => .cons (Dx.grow s a) (DxKv.grow s b)
end
mutual
theorem Dx.dp {K : PySem.W.Frag} {H : Hp} : ∀ {x : V} {d : PyData}, Dx H x d → d.hasDict = false → Dp K H x d
  | _, _, .non, _ => .non
  | _, _, .bl b, _ => .bl b
  | _, _, .int i, _ => .int i
  | _, _, .str x, _ => .str x
  | _, _, .lst h a, n => .lst (SqL.of h) (DxAll.dp a (by simpa [PyData.hasDict] using n))
  | _, _, .tup h a, n => .tup (SqT.of h) (DxAll.dp a (by simpa [PyData.hasDict] using n))
  | _, _, .dct h a, n => by simp [PyData.hasDict] at n
theorem DxAll.dp {K : PySem.W.Frag} {H : Hp} : ∀ {xs : List V} {ds : List PyData}, DxAll H xs ds → PyData.hasDictAll ds = false → DpAll K H xs ds
  | _, _, .nil, _ => .nil
  | _, _, .cons a b, n => by
    rw [PyData.hasDictAll, Bool.or_eq_false_iff] at n
    exact .cons (Dx.dp a n.1) (DxAll.dp b n.2)
end
theorem DxAll.len {H : Hp} : ∀ {xs : List V} {ds : List PyData}, DxAll H xs ds → xs.length = ds.length
  | _, _, .nil => rfl
  | _, _, .cons _ b => by rw [List.length_cons, List.length_cons, DxAll.len b]
theorem DxAll.at {H : Hp} : ∀ {xs : List V} {ds : List PyData}, DxAll H xs ds → ∀ (i : Nat) (d : PyData), ds[i]? = some d → ∃ x, xs[i]? = some x ∧ Dx H x d
  | _, _, .nil, _, _, e => by cases e
  | _, _, .cons a b, 0, d, e => by
    cases e
    exact ⟨_, rfl, a⟩
  | _, _, .cons a b, i + 1, d, e => DxAll.at b i d e
theorem DxAll.get {H : Hp} : ∀ {xs : List V} {ds : List PyData}, DxAll H xs ds → ∀ (i : Nat) (x : V), xs[i]? = some x → ∃ d, ds[i]? = some d ∧ Dx H x d
  | _, _, .nil, _, _, e => by cases e
  | _, _, .cons a b, 0, d, e => by
    cases e
    exact ⟨_, rfl, a⟩
  | _, _, .cons a b, i + 1, d, e => DxAll.get b i d e
theorem DxAll.append {H : Hp} : ∀ {xs ys : List V} {ds es : List PyData}, DxAll H xs ds → DxAll H ys es → DxAll H (xs ++ ys) (ds ++ es)
  | _, _, _, _, .nil, h => h
  | _, _, _, _, .cons a b, h => .cons a (DxAll.append b h)
theorem DxAll.take {H : Hp} : ∀ {xs : List V} {ds : List PyData} (n : Nat), DxAll H xs ds → DxAll H (xs.take n) (ds.take n)
  | _, _, 0, _ => .nil
  | _, _, _ + 1, .nil => .nil
  | _, _, n + 1, .cons a b => .cons a (DxAll.take n b)
theorem DxAll.drop {H : Hp} : ∀ {xs : List V} {ds : List PyData} (n : Nat), DxAll H xs ds → DxAll H (xs.drop n) (ds.drop n)
  | _, _, 0, h => h
  | _, _, _ + 1, .nil => .nil
  | _, _, n + 1, .cons a b => DxAll.drop n b
theorem DxAll.rep {H : Hp} {x : V} {d : PyData} (h : Dx H x d) : ∀ n, DxAll H (List.replicate n x) (List.replicate n d)
  | 0 => .nil
  | n + 1 => .cons h (DxAll.rep h n)
def tyName : PyData → String
  | .none => "NoneType" | .bool _ => "bool" | .int _ => "int" | .str _ => "str" | .list _ => "list" | .tuple _ => "tuple" | .dict _ => "dict"
theorem Dx.ty {K : PySem.W.Frag} {H : Hp} {x : V} {d : PyData} (h : Dx H x d) : TyX K H x (.type (tyName d)) := by
  cases h with
  | non => exact .base .non
  | bl b => exact .base (.bl b)
  | int i => exact .base (.int i)
  | str x => exact .base (.str x)
  | lst h _ => exact .base (.lst h)
  | tup h _ => exact .base (.tup h)
  | dct h _ => exact .base (.dK h)
theorem Same.put {H H' : Hp} {p : Addr} {o : HO} (s : Same H H') (n : H p = none) : Same H (upd H' p o) := fun b u e => by
  rw [upd_ne (ne_of_none e n)]
  exact s b u e
/-- a judge: what it says hangs on the value's data alone -/
def spJ (f : PyData → Bool) : Sp := fun vs H Q _ => ∃ (x : V) (d : PyData), vs = [x] ∧ Dx H x d ∧ ∀ H', Same H H' → Q (.bl (f d)) H'
theorem Mv.ofSame {d : Addr} {H H1 H2 : Hp} (a : Mv d H H1) (s : Same H1 H2) : Mv d H H2 := by
  refine ⟨fun b u e => ?_, ?_⟩
  · have q := a.same b u e
    by_cases h : b = d
    · subst h
      rw [hide_at] at q
      cases q
    · rw [hide_ne h] at q ⊢
      exact s _ _ q
  · obtain ⟨l, t, c, q⟩ := a.dice
    exact ⟨l, t, c, s _ _ q⟩
theorem Mv.dx {d : Addr} {H H' : Hp} {x : V} {dat : PyData} (m : Mv d H H') (h : Dx (hide d H) x dat) : Dx (hide d H') x dat := Dx.grow m.same h
theorem Dx.seen {d : Addr} {H : Hp} {x : V} {dat : PyData} (h : Dx (hide d H) x dat) : Dx H x dat := Dx.grow hide_le h

/-! ## the program's judges of forms and rows, as functions of data -/
abbrev BIG : Int := 1000000000000000000000000000000000000000000000000000000000000
def smallB (i : Int) : Bool := decide (-BIG < i) && decide (i < BIG)
def intB : PyData → Bool
  | .int i => smallB i
  | _ => false
def pairB : PyData → Bool
  | .tuple [a, b] => intB a && intB b
  | _ => false
def sideB : PyData → Bool
  | .int i => decide (0 ≤ i) && decide (i ≤ 7)
  | _ => false
def formB : PyData → Bool
  | .tuple [a, b] => sideB a && sideB b
  | _ => false
def formsB : PyData → Bool
  | .tuple ds => decide (ds.length ≤ 200) && ds.all formB
  | _ => false
def zeroD : PyData := .tuple [.int 0, .int 0]
def rowB : PyData → Bool
  | .tuple ds => formsB (.tuple ds) && (ds.isEmpty || !PyData.eqv (ds.getLastD .none) zeroD)
  | _ => false

section
variable {X : Cx}
/-- min and max of a tuple of two numbers -/
def rBest (f : Int → Int → Int) : List V → Hp → VK → Prop := fun vs H Q => ∃ (a : Addr) (i j : Int), vs = [.ref a] ∧ H a = some (.tup [.int i, .int j]) ∧ Q (.int (f i j)) H
open PySem.W in
theorem cr_max2T (hc : X.calm = true) (hu : X.A.units + 64 < cLine) : CallR X (.builtin "max") (rBest max) := by
  intro pins s σ H vs us Q I r h
  obtain ⟨a, i, j, rfl, ha, q⟩ := h
  rw [Vals.ref1 r]
  obtain ⟨its, rv, hl, _⟩ := I.tuple (SqT.of (K := X.K) ha)
  obtain ⟨u1, u2, rfl, r1, r2⟩ := vals2 rv
  obtain ⟨t1, rfl⟩ := (show ∃ t, u1 = Value.int i t from r1)
  obtain ⟨t2, rfl⟩ := (show ∃ t, u2 = Value.int j t from r2)
  refine max_tuple_data (x := .int i) (xs := [.int j]) (I.ok.hd hc) hl (.cons (.int i t1) (.cons (.int j t2) .nil)) ?_ ?_ fun k v h' tk bs hv rd kp => ?_
  · exact ⟨fun x hx y hy => by
      rcases List.mem_cons.mp hx with rfl | hx <;> rcases List.mem_cons.mp hy with rfl | hy
      · rfl
      · rw [List.mem_singleton.mp hy]; rfl
      · rw [List.mem_singleton.mp hx]; rfl
      · rw [List.mem_singleton.mp hy, List.mem_singleton.mp hx]; rfl, fun x hx z => by
      rcases List.mem_cons.mp hx with rfl | hx
      · cases z
      · rw [List.mem_singleton.mp hx] at z
        cases z⟩
  · have e : PyData.depthAll [.int i, .int j] = 0 := by simp [PyData.depthAll, PyData.depth]
    rw [e]
    omega
  · have e : maxD (.int i) [.int j] = .int (max i j) := maxD_ints i [j]
    rw [e] at rd
    cases rd with
    | int _ t => exact ⟨.int _, H, I.kept kp, ⟨t, rfl⟩, q⟩
open PySem.W in
theorem cr_min2T (hc : X.calm = true) (hu : X.A.units + 64 < cLine) : CallR X (.builtin "min") (rBest min) := by
  intro pins s σ H vs us Q I r h
  obtain ⟨a, i, j, rfl, ha, q⟩ := h
  rw [Vals.ref1 r]
  obtain ⟨its, rv, hl, _⟩ := I.tuple (SqT.of (K := X.K) ha)
  obtain ⟨u1, u2, rfl, r1, r2⟩ := vals2 rv
  obtain ⟨t1, rfl⟩ := (show ∃ t, u1 = Value.int i t from r1)
  obtain ⟨t2, rfl⟩ := (show ∃ t, u2 = Value.int j t from r2)
  refine min_tuple_data (x := .int i) (xs := [.int j]) (I.ok.hd hc) hl (.cons (.int i t1) (.cons (.int j t2) .nil)) ?_ ?_ fun k v h' tk bs hv rd kp => ?_
  · exact ⟨fun x hx y hy => by
      rcases List.mem_cons.mp hx with rfl | hx <;> rcases List.mem_cons.mp hy with rfl | hy
      · rfl
      · rw [List.mem_singleton.mp hy]; rfl
      · rw [List.mem_singleton.mp hx]; rfl
      · rw [List.mem_singleton.mp hy, List.mem_singleton.mp hx]; rfl, fun x hx z => by
      rcases List.mem_cons.mp hx with rfl | hx
      · cases z
      · rw [List.mem_singleton.mp hx] at z
        cases z⟩
  · have e : PyData.depthAll [.int i, .int j] = 0 := by simp [PyData.depthAll, PyData.depth]
    rw [e]
    omega
  · have e : minD (.int i) [.int j] = .int (min i j) := minD_ints i [j]
    rw [e] at rd
    cases rd with
    | int _ t => exact ⟨.int _, H, I.kept kp, ⟨t, rfl⟩, q⟩
end
/-! ## tuples put together, cut and repeated, over data -/
theorem fresh_same {d p : Addr} {H : Hp} {o : HO} (hd : DiceAt H d) (n : H p = none) : Same (hide d H) (hide d (upd H p o)) := ((Mv.refl hd).new n).same
theorem OpR.to {X : Cx} {f : Value → Value → Sem Value} {r r' : R2} (h : OpR X f r) (i : ∀ x y H Q, r' x y H Q → r x y H Q) : OpR X f r' :=
  fun pins s σ H x y v u Q I rx ry q => h pins s σ H x y v u Q I rx ry (i _ _ _ _ q)
theorem Dx.tupOf {H : Hp} {x : V} {ds : List PyData} (h : Dx H x (.tuple ds)) : ∃ a xs, x = .ref a ∧ H a = some (.tup xs) ∧ DxAll H xs ds := by
  cases h with
  | tup h1 h2 => exact ⟨_, _, rfl, h1, h2⟩
def rCatD : R2 := fun x y H Q => ∃ (d : Addr) (ds es : List PyData), DiceAt H d ∧ Dx (hide d H) x (.tuple ds) ∧ Dx (hide d H) y (.tuple es) ∧ ds.length + es.length ≤ 100000 ∧
  ∀ v H', Mv d H H' → Dx (hide d H') v (.tuple (ds ++ es)) → Q v H'
theorem op_catD {X : Cx} : OpR X (binaryOp .Add) rCatD := by
  refine OpR.to op_catA fun x y H Q h => ?_
  obtain ⟨d, ds, es, hd, hx, hy, hl, k⟩ := h
  obtain ⟨a, xs, rfl, ha, hxs⟩ := hx.tupOf
  obtain ⟨b, ys, rfl, hb, hys⟩ := hy.tupOf
  have l1 := hxs.len
  have l2 := hys.len
  refine ⟨a, b, xs, ys, rfl, rfl, SqT.of (hide_le _ _ ha), SqT.of (hide_le _ _ hb), Nat.le_trans (show xs.length + ys.length ≤ 100000 by omega) (by decide), fun e => ?_, fun _ e => ?_, fun _ _ p np => ?_⟩
  · subst e
    cases hxs
    exact k _ _ (Mv.refl hd) hy
  · subst e
    cases hys
    refine k _ _ (Mv.refl hd) ?_
    rw [List.append_nil]
    exact hx
  · refine k _ _ ((Mv.refl hd).new np) (.tup (by rw [hide_ne (hd.ne np)]; exact upd_same) (DxAll.grow (fresh_same hd np) (hxs.append hys)))
/-- the part of a tuple that a slice takes -/
def cutD (ds : List PyData) (lo hi : Option Int) : List PyData := (ds.drop (HT.sIx ds.length 0 lo)).take (HT.sIx ds.length ds.length hi - HT.sIx ds.length 0 lo)
def rSlD : V → Option Int → Option Int → Hp → VK → Prop := fun x lo hi H Q => ∃ (d : Addr) (ds : List PyData), DiceAt H d ∧ Dx (hide d H) x (.tuple ds) ∧
  ∀ v H', Mv d H H' → Dx (hide d H') v (.tuple (cutD ds lo hi)) → Q v H'
theorem sl_tupD {X : Cx} : SlR X rSlD := by
  intro pins s σ H x v vl vu lo hi sl Q I rx hs pl pu h
  obtain ⟨d, ds, hd, hx, k⟩ := h
  obtain ⟨a, xs, rfl, ha, hxs⟩ := hx.tupOf
  have l1 := hxs.len
  refine sl_tupA pins s σ H (.ref a) v vl vu lo hi sl Q I rx hs pl pu ⟨a, xs, rfl, SqT.of (hide_le _ _ ha), fun e => ?_, fun _ p np => ?_⟩
  · refine k _ _ (Mv.refl hd) ?_
    have e2 : cutD ds lo hi = ds := by
      unfold cutD
      rw [← l1, e.1, e.2]
      simp [l1]
    rw [e2]
    exact hx
  · refine k _ _ ((Mv.refl hd).new np) (.tup (by rw [hide_ne (hd.ne np)]; exact upd_same) (DxAll.grow (fresh_same hd np) ?_))
    have e2 : cutV xs lo hi = (xs.drop (HT.sIx ds.length 0 lo)).take (HT.sIx ds.length ds.length hi - HT.sIx ds.length 0 lo) := by
      unfold cutV
      rw [l1]
    rw [e2]
    exact (hxs.drop _).take _
def rRepD : R2 := fun x y H Q => ∃ (d : Addr) (k : Int) (ds : List PyData), y = .int k ∧ DiceAt H d ∧ Dx (hide d H) x (.tuple ds) ∧ ds ≠ [] ∧ 2 ≤ k ∧ k ≤ 1000 ∧ ds.length ≤ 1000 ∧
  ∀ v H', Mv d H H' → Dx (hide d H') v (.tuple (List.replicate k.toNat ds).flatten) → Q v H'
theorem DxAll.flat {H : Hp} {xs : List V} {ds : List PyData} (h : DxAll H xs ds) : ∀ n, DxAll H (List.replicate n xs).flatten (List.replicate n ds).flatten
  | 0 => .nil
  | n + 1 => by
    rw [List.replicate_succ, List.replicate_succ, List.flatten_cons, List.flatten_cons]
    exact h.append (DxAll.flat h n)
theorem op_repD {X : Cx} : OpR X (binaryOp .Mult) rRepD := by
  refine OpR.to op_repT fun x y H Q h => ?_
  obtain ⟨d, n, ds, rfl, hd, hx, h0, h2, h3, h4, k⟩ := h
  obtain ⟨a, xs, rfl, ha, hxs⟩ := hx.tupOf
  have l1 := hxs.len
  refine ⟨a, n, xs, rfl, rfl, SqT.of (hide_le _ _ ha), fun e => ?_, h2, h3, by omega, fun p np => ?_⟩
  · subst e
    cases hxs
    exact h0 rfl
  · exact k _ _ ((Mv.refl hd).new np) (.tup (by rw [hide_ne (hd.ne np)]; exact upd_same) (DxAll.grow (fresh_same hd np) (hxs.flat n.toNat)))
/-- a value picked out of a list of known data -/
theorem picked {d : Addr} {H H' : Hp} {xs : List V} {ds : List PyData} {i : Nat} {x : V} (h : DxAll (hide d H) xs ds) (m : Mv d H H') (e : xs[i]? = some x) : ∃ dat, dat ∈ ds ∧ Dx (hide d H') x dat := by
  obtain ⟨dat, h1, h2⟩ := h.get i x e
  exact ⟨dat, List.mem_of_getElem? h1, h2.grow m.same⟩
end G

set_option Elab.async false
set_option linter.all false
set_option maxRecDepth 100000
set_option maxHeartbeats 4000000
namespace G
open PySem PySem.Spec PyProof.Rows L2 HT
/-! ## a tuple read backwards: t[::-1] -/
theorem all_places {α : Type} : ∀ l : List α, (List.range l.length).filterMap (fun k => l[k]?) = l
  | [] => rfl
  | x :: r => by
    have ih := all_places r
    rw [List.length_cons, List.range_succ_eq_map, List.filterMap_cons]
    show x :: List.filterMap (fun k => (x :: r)[k]?) (List.map Nat.succ (List.range r.length)) = x :: r
    rw [List.filterMap_map]
    exact congrArg (x :: ·) ih
theorem fm_congr {α β : Type} {f g : α → Option β} : ∀ l : List α, (∀ x ∈ l, f x = g x) → l.filterMap f = l.filterMap g
  | [], _ => rfl
  | x :: r, h => by
    rw [List.filterMap_cons, List.filterMap_cons, h x List.mem_cons_self, fm_congr r fun y hy => h y (List.mem_cons_of_mem _ hy)]
theorem back_items (xs : Array Value) : ((List.range xs.size).filterMap fun (k : Nat) => xs[(((xs.size : Int) - 1) + (k : Int) * (-1)).toNat]?).toArray = xs.toList.reverse.toArray := by
  congr 1
  have e := all_places xs.toList.reverse
  rw [List.length_reverse, Array.length_toList] at e
  rw [← e]
  refine fm_congr _ fun k hk => ?_
  have hk' : k < xs.size := List.mem_range.mp hk
  rw [show (((xs.size : Int) - 1) + (k : Int) * (-1)).toNat = xs.size - 1 - k by omega]
  rw [← Array.getElem?_toList, List.getElem?_reverse (by rw [Array.length_toList]; exact hk'), Array.length_toList]
section
variable {prog : Program} {w : World} {A : Around} {E : Value → Shared → Prop} {s : Shared}
theorem applied_back {sl : Addr} {vl vu vs : Value} {n : Nat} {Q : Int × Int × Nat → Shared → Prop} (hs : s.heap.IsSliceOf sl vl vu vs) (pl : IsPart vl none) (pu : IsPart vu none) (ps : IsPart vs (some (-1)))
    (h : Q ((n : Int) - 1, -1, n) s) : wpAny (model prog w) A (Builtin.Slice.sliceApplied (.ref sl) (pure (n : Int))) Q E s := by
  obtain ⟨so, so1, so2, so3⟩ := id hs
  unfold Builtin.Slice.sliceApplied Builtin.Slice.sliceFields
  refine wpAny_bind (wpAny_bind (wpAny_field so1 so3 (x := vl) rfl (wpAny_bind (wpAny_field so1 so3 (x := vu) rfl (wpAny_bind (wpAny_field so1 so3 (x := vs) rfl (wpAny_pure ?_)))))))
  refine wpAny_bind (slicePart_ ps ?_)
  show wpAny _ _ (if ((-1 : Int) == 0) = true then _ else _) _ _ s
  rw [if_neg (by decide)]
  refine wpAny_bind (slicePart_ pl (wpAny_bind (slicePart_ pu (wpAny_bind (wpAny_pure ?_)))))
  have e1 : Builtin.Slice.sliceAdjust none none (-1) (n : Int) = ((n : Int) - 1, -1) := rfl
  have e2 : Builtin.Slice.slicePlaces ((n : Int) - 1) (-1) (-1) = n := by
    unfold Builtin.Slice.slicePlaces
    rw [if_neg (by decide)]
    by_cases q : (n : Int) - 1 > -1
    · rw [if_pos q]
      have : ((n : Int) - 1 - -1 - 1) / - -1 = (n : Int) - 1 - -1 - 1 := by
        rw [Int.neg_neg, Int.ediv_one]
      rw [this]
      omega
    · rw [if_neg q]
      omega
  show wpAny _ _ (match Builtin.Slice.sliceAdjust none none (-1) (n : Int) with | (lo, hi) => pure (lo, (-1 : Int), Builtin.Slice.slicePlaces lo hi (-1))) _ _ s
  rw [e1]
  show wpAny _ _ (pure ((n : Int) - 1, (-1 : Int), Builtin.Slice.slicePlaces ((n : Int) - 1) (-1) (-1))) _ _ s
  rw [e2]
  exact wpAny_pure h
theorem item_back {t sl : Addr} {items : Array Value} {vl vu vs : Value} {Q : Value → Shared → Prop} (ht : IsTup s.heap t items) (hs : s.heap.IsSliceOf sl vl vu vs) (pl : IsPart vl none) (pu : IsPart vu none) (ps : IsPart vs (some (-1)))
    (h : Q (.ref s.heap.objs.size) { s with heap := s.heap.push { cls := .type "tuple", data := .seq items.toList.reverse.toArray } }) (hsz : items.size ≤ sizeLine) : wpAny (model prog w) A (getItem (.ref t) (.ref sl)) Q E s := by
  have fits : sizeOk (.seq items.toList.reverse.toArray) := by
    show items.toList.reverse.toArray.size ≤ sizeLine
    rw [List.size_toArray, List.length_reverse, Array.length_toList]
    exact hsz
  obtain ⟨so, so1, so2, so3⟩ := id hs
  have kind : s.TypeIs (.ref sl) "slice" := ⟨so, so1, so2⟩
  unfold getItem
  try with_reducible refine wpAny_holding ?_
  first | refine wpAny_bind (wpAny_pure ?_) | skip
  refine wpAny_bind (wpAny_sequenceKey ht.typeIs (by decide) ?_)
  refine wpAny_bind (wpAny_callSpecial?_slot (name := Str.ofString "__getitem__") ht.typeIs PyProof.Rows.slot_tuple_getitem (wpAny_call_entry PyProof.Rows.slot_tuple_getitem ht.typeIs entry_tuple_getitem ?_ (args_tuple_getitem _ _)))
  show wpAny _ _ (Builtin.Tuple.tupleItemsOf (.ref t) >>= _) _ _ s
  refine wpAny_bind (tupleItemsOf_ ht (wpAny_bind (wpAny_typeOf kind ?_)))
  rw [if_pos (by decide)]
  refine wpAny_bind (applied_back hs pl pu ps ?_)
  have part : ¬ ((((items.size : Int) - 1) == 0 && (-1 : Int) == 1 && items.size == items.size) = true) := by
    intro q
    rw [Bool.and_eq_true, Bool.and_eq_true] at q
    exact absurd q.1.2 (by decide)
  show wpAny _ _ (if (((items.size : Int) - 1) == 0 && (-1 : Int) == 1 && items.size == items.size) = true then _ else _) _ _ s
  rw [if_neg part, back_items]
  first
    | exact wpAny_bind (m := Builtin.Tuple.tupleExact _) (wpAny_newObj_type (wpAny_pure ⟨_, rfl, wpAny_pure h⟩) fits)
    | exact wpAny_bind (m := Builtin.Tuple.tupleExact _) (wpAny_newObj_type (wpAny_bind (wpAny_pure (wpAny_pure ⟨_, rfl, wpAny_pure h⟩))) fits)
    | exact wpAny_bind (wpAny_bind (m := Builtin.Tuple.tupleExact _) (wpAny_newObj_type (wpAny_pure (wpAny_pure ⟨_, rfl, wpAny_pure h⟩)) fits))
    | exact wpAny_bind (wpAny_bind (m := Builtin.Tuple.tupleExact _) (wpAny_newObj_type (wpAny_pure ⟨_, rfl, wpAny_pure h⟩) fits))
end
def tRevT (K : PySem.W.Frag) (te : TE) : TE := fun σ H Q => te σ H fun x H1 => ∃ a xs, x = .ref a ∧ SqT K H1 a xs ∧ ∀ p, H1 p = none → Q (.ref p) (upd H1 p (.tup xs.reverse))
theorem pe_revT {X : Cx} {e : Expr} {te : TE} {k : Nat} {p1 p2 p3 pos : Pos} (he : PE X e te) : PE X (.Subscript e (.Slice none none (some (.UnaryOp .USub (.Constant (.int 1) k p1) p2)) p3) pos) (tRevT X.K te) := by
  constructor
  intro pins s σ H Q I h
  refine Subscript_ (thn (he.run pins s σ H _ I h) fun v s1 hv => ?_)
  obtain ⟨x, H1, I1, r1, a, xs, rfl, hx, q⟩ := hv
  cases r1
  have stp : PO X (some (.UnaryOp .USub (.Constant (.int 1) k p1) p2)) (tPart (tUn (rU fun i => .int (-i)) (tC (.int 1)))) := po_some (pe_un un_neg pe_int)
  refine wpAny_Slice (thn (po_none.run pins s1 σ H1 (fun o G => o = none ∧ G = H1) I1 ⟨rfl, rfl⟩) fun vl s2 hl => ?_)
  obtain ⟨l, H2, I2, pl, rfl, rfl⟩ := hl
  refine thn (po_none.run pins s2 σ H2 (fun o G => o = none ∧ G = H2) I2 ⟨rfl, rfl⟩) fun vu s3 hu => ?_
  obtain ⟨u, H3, I3, pu, rfl, rfl⟩ := hu
  refine thn (stp.run pins s3 σ H3 (fun o G => o = some (-1) ∧ G = H3) I3 ⟨1, rfl, -1, rfl, rfl, rfl⟩) fun vs s4 ho => ?_
  obtain ⟨o, H4, I4, ps, rfl, rfl⟩ := ho
  have I5 : Inv X pins σ H4 { s4 with heap := s4.heap.push { cls := .type "slice", data := .fields #[vl, vu, vs] } } := I4.kept (t' := s4.toks) fun b ob z => Heap.get?_push_of_some _ z
  obtain ⟨its, r, ht, hz⟩ := I5.tuple hx
  have hlen := r.length
  show wpAny (model X.prog X.w) X.A (subscriptTail e (.Slice none none (some (.UnaryOp .USub (.Constant (.int 1) k p1) p2)) p3) (.ref a) (.ref s4.heap.objs.size)) (EP X pins σ Q) X.xe { s4 with heap := s4.heap.push { cls := .type "slice", data := .fields #[vl, vu, vs] } }
  refine tail_any (ops := [.ref a, .ref s4.heap.objs.size]) ht.typeIs (PyProof.Rows.slot_tuple_getitem.lookup) ?_ (by with_unfolding_all rfl)
  refine item_back ht (Heap.IsSliceOf.new _ vl vu vs) pl pu ps ?_ (by rw [List.size_toArray]; omega)
  refine ⟨.ref _, _, I5.laid (t' := s4.toks) (o := .tup xs.reverse) (fun b ob z => Heap.get?_push_of_some _ z) (Nat.le_refl _) ?_, rfl, q _ (I5.hok.fresh (Nat.le_refl _))⟩
  refine ⟨by rw [List.length_reverse]; exact hz, its.reverse, r.reverse, _, Heap.get?_push_size _ rfl, rfl, 0, ?_⟩
  simp
end G

set_option Elab.async false
set_option linter.all false
set_option maxRecDepth 100000
set_option maxHeartbeats 4000000
namespace G
open PySem PySem.Spec PyProof PyProof.Rows L2
/-! ## set(xs) of a list of whole numbers -/
/-- the set that set.__new__ lays -/
abbrev newSetO (w : World) : Obj := { cls := .type "set", dict := none, data := .set #[] 0 (.fresh 0 0 (!w.params.followText "set-order")) }
section
variable {P : Program} {w : World} {A : Around} {E : Value → Shared → Prop} {s : Shared}
/-- a built-in class is called: what its __new__ makes, then its __init__, told by its own code -/
theorem made_by {T nid iid : String} {xs : List Value} {R Q : Value → Shared → Prop} (ft : TypeCalled T nid iid) (ok : checkTypeCall T ⟨xs, []⟩ = pure ())
    (lay : codeAny (model P w) A.in1 (.call (.builtin nid) ⟨.type T :: xs, []⟩) (wants R E) s)
    (fill : ∀ x t, R x t → t.TypeIs x T ∧ codeAny (model P w) A.in1 (.call (.builtin iid) ⟨x :: xs, []⟩) (wants (fun r u => r = .none ∧ Q x u) E) t) :
    wpAny (model P w) A (call (.type T) xs) Q E s := by
  have ⟨c, tl, mro⟩ := ft.mro
  have a1 := ft.made
  have a2 := ft.sub
  have a3 := ft.notType
  have a4 := ft.canCreate
  refine wpAny_call (codeAny_of_tree (show wpAny _ _ (callAny (.type T) _) _ _ _ from wpAny_pure ⟨Code.quiet_builtin _ (by decide +kernel), codeAny_builtin F.entry_type_call ?_⟩))
  rw [Around.under_plain (weight_type_call_type T xs []) rfl]
  repeat (any_goals (first | assumption | wp_step))
  refine codeAny_mono lay fun r t q => ?_
  match r, q with
  | .error e, q => exact q
  | .ok .next, q => exact q.elim
  | .ok .brk, q => exact q.elim
  | .ok .cont, q => exact q.elim
  | .ok (.ret x), q =>
    have ⟨tx, q⟩ := fill x t q
    have b1 := ft.init.lookup
    have b2 := ft.init.bind x
    repeat (any_goals (first | assumption | wp_step))
    refine codeAny_mono q fun r u z => ?_
    match r, z with
    | .error e, z => exact z
    | .ok .next, z => exact z.elim
    | .ok .brk, z => exact z.elim
    | .ok .cont, z => exact z.elim
    | .ok (.ret y), z =>
      obtain ⟨rfl, z⟩ := z
      repeat (any_goals (first | assumption | wp_step))
theorem set_ints {l : Addr} {vs : Array Value} {ns : List Int} {Q : Value → Shared → Prop} (calm : A.handled = none) (hl : s.heap.IsList l vs) (iv : IntsAre vs.toList ns) (few : ns.length + 1 < scanBound)
    (k : ∀ (h' : Heap) (t c : Nat), SetR w h' s.heap.objs.size (fun j => decide (j ∈ ns)) c → c ≤ ns.length → (∀ b o, s.heap.get? b = some o → h'.get? b = some o) → Q (.ref s.heap.objs.size) { s with heap := h', toks := t }) :
    wpAny (model P w) A (call (.type "set") [.ref l]) Q E s := by
  have many : vs.size = ns.length := by
    have e := IntsAre.length iv
    rw [Array.length_toList] at e
    exact e
  have nums : ∀ (i : Nat) (v : Value), vs[i]? = some v → ∃ j t, ns[i]? = some j ∧ v = .int j t := by
    intro i v e
    have q : vs.toList[i]? = some v := by
      rw [Array.getElem?_toList]
      exact e
    have lt : i < ns.length := many ▸ (Array.getElem?_eq_some_iff.mp e).1
    obtain ⟨t, z⟩ := iv.get i _ (List.getElem?_eq_getElem lt)
    exact ⟨_, t, List.getElem?_eq_getElem lt, Option.some.inj (q.symm.trans z)⟩
  have low : l < s.heap.objs.size := by
    obtain ⟨o, e, _⟩ := hl
    exact Heap.lt_size e
  refine made_by F.called_set (F.typeCall_set_1 (.ref l)) (code_set_led1 (.ref l) (Q₁ := fun obj t => obj = .ref s.heap.objs.size ∧ t = { s with heap := s.heap.push (newSetO w) }) ⟨rfl, rfl⟩) ?_
  rintro _ _ ⟨rfl, rfl⟩
  have place : (s.heap.push (newSetO w)).get? s.heap.objs.size = some (newSetO w) := Heap.get?_push_size _ rfl
  have isSet : Shared.TypeIs { s with heap := s.heap.push (newSetO w) } (.ref s.heap.objs.size) "set" := ⟨_, place, rfl⟩
  refine ⟨isSet, codeAny_call_builtin F.called_set.init.plain F.entry_set_init (check_set_init_1 isSet ?_)⟩
  have src : (s.heap.push (newSetO w)).IsList l vs := by
    obtain ⟨o, e, r⟩ := hl
    exact ⟨o, Heap.get?_push_of_some _ e, r⟩
  have srcT := src.typeIs (s := { s with heap := s.heap.push (newSetO w) })
  have nd : (Value.type "list" == Value.type "dict") = false := by decide
  have ns1 := F.sub_list_set
  have ns2 := F.sub_list_frozenset
  unfold Builtin.«set.__init__» noKeywords Builtin.Frozenset.updateFrom
  generalize ei : pyIter = walk
  wp_walk
  subst ei
  have up : (s.heap.push (newSetO w)).objs.size = s.heap.objs.size + 1 := Heap.size_push ..
  refine wpAny_pyIter_list src (wpAny_bind (wpAny_runValue ?_))
  refine set_update_ints ((Walks.list (by simpa using calm) (s.heap.push (newSetO w)).objs.size l (by rw [up]; exact Nat.ne_of_lt (Nat.lt_succ_of_lt low)) vs).toS) s.heap.objs.size (by rw [up]; simp only [List.mem_cons, List.not_mem_nil, or_false]; exact not_or.mpr ⟨Nat.ne_of_lt (Nat.lt_succ_self _), Nat.ne_of_gt low⟩) ns many few nums (vs.size - 0) 0 _ rfl (Nat.zero_le _)
    ⟨⟨_, Heap.get?_push_size _ rfl, rfl, rfl⟩, src.push _⟩ ⟨0, Nat.le_refl 0, setR_new_at (Heap.get?_push_of_some _ place)⟩ ?_
  intro u c mv le R
  obtain ⟨hp, gg, dd, tt, oo⟩ := u
  obtain rfl : gg = s.gens := mv.gens
  obtain rfl : dd = s.drawn := mv.drawn
  obtain rfl : oo = s.os := mv.os
  refine wpAny_pure (show wpAny _ _ (ret Value.none) _ _ _ from wpAny_pure ⟨rfl, k hp tt c R (by omega) fun b o e => ?_⟩)
  have lb := Heap.lt_size e
  refine mv.heap b o ?_ (Heap.get?_push_of_some _ (Heap.get?_push_of_some _ e))
  rw [up]
  simp only [List.mem_cons, List.not_mem_nil, or_false]
  exact not_or.mpr ⟨Nat.ne_of_lt lb, Nat.ne_of_lt (Nat.lt_succ_of_lt lb)⟩
end
section
variable {X : Cx}
/-- set(xs) of a list of whole numbers -/
def rSetL (K : PySem.W.Frag) (w : World) : List V → Hp → VK → Prop := fun xs H Q => ∃ (a : Addr) (ns : List Int), xs = [.ref a] ∧ SqL K H a (ns.map V.int) ∧ ns.length ≤ 1000 ∧
  ∀ (p : Addr) (c : Nat), H p = none → c ≤ ns.length → Q (.ref p) (upd H p (SetO w p (fun j => decide (j ∈ ns)) c))
theorem cr_setL (hc : X.calm = true) : CallR X (.type "set") (rSetL X.K X.w) := by
  intro pins s σ H xs us Q I r h
  obtain ⟨a, ns, rfl, hs, few, q⟩ := h
  rw [Vals.ref1 r]
  obtain ⟨its, rv, pl, hz⟩ := I.list hs
  refine set_ints (I.ok.hd hc) pl.isList (ints_of_vals rv) (by unfold scanBound; omega) fun h' t c R le kp => ?_
  have fresh : H s.heap.objs.size = none := I.hok.fresh (Nat.le_refl _)
  exact ⟨.ref _, _, I.laid (t' := t) (fun b o e => kp b o e) (Nat.le_refl _) (setO_new R), rfl, q _ c fresh le⟩
end
end G

set_option Elab.async false
set_option linter.all false
set_option maxRecDepth 100000
set_option maxHeartbeats 2000000
namespace G
open PySem PySem.Spec PyProof.Rows L2
def top (i : Nat) : Stmt := PySem.Challenge.pw_fingerbooks_k06_whole_numbers_of_levels.main.body.getD i (.Pass ⟨0, 0, 0, 0⟩)
abbrev s_is_integer : Stmt := top 6
abbrev N_is_integer : List Str := ["value"]
theorem sc_is_integer : FnScope N_is_integer ["value"] (defScope s_is_integer) := ⟨rfl, rfl, rfl, by decide +kernel, rfl, by decide +kernel, by decide +kernel⟩
abbrev s_is_count : Stmt := top 7
abbrev N_is_count : List Str := ["value"]
theorem sc_is_count : FnScope N_is_count ["value"] (defScope s_is_count) := ⟨rfl, rfl, rfl, by decide +kernel, rfl, by decide +kernel, by decide +kernel⟩
abbrev s_is_within : Stmt := top 8
abbrev N_is_within : List Str := ["value", "least", "greatest"]
theorem sc_is_within : FnScope N_is_within ["value", "least", "greatest"] (defScope s_is_within) := ⟨rfl, rfl, rfl, by decide +kernel, rfl, by decide +kernel, by decide +kernel⟩
abbrev s_is_pair : Stmt := top 12
abbrev N_is_pair : List Str := ["value"]
theorem sc_is_pair : FnScope N_is_pair ["value"] (defScope s_is_pair) := ⟨rfl, rfl, rfl, by decide +kernel, rfl, by decide +kernel, by decide +kernel⟩
abbrev s_is_pair_within : Stmt := top 13
abbrev N_is_pair_within : List Str := ["value", "least", "greatest"]
theorem sc_is_pair_within : FnScope N_is_pair_within ["value", "least", "greatest"] (defScope s_is_pair_within) := ⟨rfl, rfl, rfl, by decide +kernel, rfl, by decide +kernel, by decide +kernel⟩
abbrev s_is_form : Stmt := top 14
abbrev N_is_form : List Str := ["value"]
theorem sc_is_form : FnScope N_is_form ["value"] (defScope s_is_form) := ⟨rfl, rfl, rfl, by decide +kernel, rfl, by decide +kernel, by decide +kernel⟩
abbrev s_are_forms : Stmt := top 15
abbrev N_are_forms : List Str := ["value", "form"]
theorem sc_are_forms : FnScope N_are_forms ["value"] (defScope s_are_forms) := ⟨rfl, rfl, rfl, by decide +kernel, rfl, by decide +kernel, by decide +kernel⟩
abbrev s_is_row : Stmt := top 16
abbrev N_is_row : List Str := ["value"]
theorem sc_is_row : FnScope N_is_row ["value"] (defScope s_is_row) := ⟨rfl, rfl, rfl, by decide +kernel, rfl, by decide +kernel, by decide +kernel⟩
abbrev s_check_row : Stmt := top 17
abbrev N_check_row : List Str := ["row"]
theorem sc_check_row : FnScope N_check_row ["row"] (defScope s_check_row) := ⟨rfl, rfl, rfl, by decide +kernel, rfl, by decide +kernel, by decide +kernel⟩
abbrev s_check_arity : Stmt := top 18
abbrev N_check_arity : List Str := ["arity"]
theorem sc_check_arity : FnScope N_check_arity ["arity"] (defScope s_check_arity) := ⟨rfl, rfl, rfl, by decide +kernel, rfl, by decide +kernel, by decide +kernel⟩
abbrev s_length_of : Stmt := top 19
abbrev N_length_of : List Str := ["arity", "row", "left", "right"]
theorem sc_length_of : FnScope N_length_of ["arity", "row"] (defScope s_length_of) := ⟨rfl, rfl, rfl, by decide +kernel, rfl, by decide +kernel, by decide +kernel⟩
abbrev s_sides_of : Stmt := top 20
abbrev N_sides_of : List Str := ["arity", "row"]
theorem sc_sides_of : FnScope N_sides_of ["arity", "row"] (defScope s_sides_of) := ⟨rfl, rfl, rfl, by decide +kernel, rfl, by decide +kernel, by decide +kernel⟩
abbrev s_sums_of : Stmt := top 21
abbrev N_sums_of : List Str := ["arity", "row", "left_sum", "right_sum", "left", "right"]
theorem sc_sums_of : FnScope N_sums_of ["arity", "row"] (defScope s_sums_of) := ⟨rfl, rfl, rfl, by decide +kernel, rfl, by decide +kernel, by decide +kernel⟩
abbrev s_levels_for : Stmt := top 22
abbrev N_levels_for : List Str := ["arity", "length"]
theorem sc_levels_for : FnScope N_levels_for ["arity", "length"] (defScope s_levels_for) := ⟨rfl, rfl, rfl, by decide +kernel, rfl, by decide +kernel, by decide +kernel⟩
abbrev s__least_levels : Stmt := top 23
abbrev N__least_levels : List Str := ["arity", "length", "levels", "room", "weight"]
theorem sc__least_levels : FnScope N__least_levels ["arity", "length"] (defScope s__least_levels) := ⟨rfl, rfl, rfl, by decide +kernel, rfl, by decide +kernel, by decide +kernel⟩
abbrev s__greatest_levels : Stmt := top 24
abbrev N__greatest_levels : List Str := ["arity", "length", "levels", "weight"]
theorem sc__greatest_levels : FnScope N__greatest_levels ["arity", "length"] (defScope s__greatest_levels) := ⟨rfl, rfl, rfl, by decide +kernel, rfl, by decide +kernel, by decide +kernel⟩
abbrev s__law_dice : Stmt := top 26
abbrev N__law_dice : List Str := ["_law_script", "_law_spot", "_law_cell", "_law_left"]
theorem sc__law_dice : FnScope N__law_dice ["_law_script", "_law_spot"] (defScope s__law_dice) := ⟨rfl, rfl, rfl, by decide +kernel, rfl, by decide +kernel, by decide +kernel⟩
abbrev s__law_roll : Stmt := top 27
abbrev N__law_roll : List Str := ["_law_dice_here", "_law_total", "_law_found", "_law_one", "_law_two"]
theorem sc__law_roll : FnScope N__law_roll ["_law_dice_here", "_law_total"] (defScope s__law_roll) := ⟨rfl, rfl, rfl, by decide +kernel, rfl, by decide +kernel, by decide +kernel⟩
abbrev s__law_pick : Stmt := top 28
abbrev N__law_pick : List Str := ["_law_dice_here", "_law_items"]
theorem sc__law_pick : FnScope N__law_pick ["_law_dice_here", "_law_items"] (defScope s__law_pick) := ⟨rfl, rfl, rfl, by decide +kernel, rfl, by decide +kernel, by decide +kernel⟩
abbrev s__law_cut : Stmt := top 29
abbrev N__law_cut : List Str := ["_law_forms", "_law_found"]
theorem sc__law_cut : FnScope N__law_cut ["_law_forms"] (defScope s__law_cut) := ⟨rfl, rfl, rfl, by decide +kernel, rfl, by decide +kernel, by decide +kernel⟩
abbrev s__law_some_form : Stmt := top 30
abbrev N__law_some_form : List Str := ["_law_dice_here", "_law_high"]
theorem sc__law_some_form : FnScope N__law_some_form ["_law_dice_here", "_law_high"] (defScope s__law_some_form) := ⟨rfl, rfl, rfl, by decide +kernel, rfl, by decide +kernel, by decide +kernel⟩
abbrev s__law_some_row : Stmt := top 31
abbrev N__law_some_row : List Str := ["_law_dice_here", "_law_levels", "_law_high", "_law_forms", "_law_turn", "_law_form"]
theorem sc__law_some_row : FnScope N__law_some_row ["_law_dice_here", "_law_levels", "_law_high"] (defScope s__law_some_row) := ⟨rfl, rfl, rfl, by decide +kernel, rfl, by decide +kernel, by decide +kernel⟩
abbrev s__law_row_with : Stmt := top 32
abbrev N__law_row_with : List Str := ["_law_arity", "_law_length", "_law_levels", "_law_size", "_law_sizes", "_law_turn", "_law_room", "_law_left", "_law_found", "_law_level", "_law_many"]
theorem sc__law_row_with : FnScope N__law_row_with ["_law_arity", "_law_length", "_law_levels"] (defScope s__law_row_with) := ⟨rfl, rfl, rfl, by decide +kernel, rfl, by decide +kernel, by decide +kernel⟩
abbrev s__law_right : Stmt := top 33
abbrev N__law_right : List Str := ["_law_dice_here", "_law_arity", "_law_length", "_law_told", "_law_least", "_law_most", "_law_levels", "_law_row"]
theorem sc__law_right : FnScope N__law_right ["_law_dice_here", "_law_arity", "_law_length"] (defScope s__law_right) := ⟨rfl, rfl, rfl, by decide +kernel, rfl, by decide +kernel, by decide +kernel⟩
abbrev s_law : Stmt := top 34
abbrev N_law : List Str := ["_law_script", "_law_spot", "_law_dice_here", "_law_arity", "_law_small", "_law_great", "_law_length", "_law_row", "_law_least", "_law_most", "_law_told"]
theorem sc_law : FnScope N_law ["_law_script"] (defScope s_law) := ⟨rfl, rfl, rfl, by decide +kernel, rfl, by decide +kernel, by decide +kernel⟩
structure Txt (K : PySem.W.Frag) (mg : Str → Option Value) : Prop where
  isinstance : mg "isinstance" = none
  int : mg "int" = none
  bool : mg "bool" = none
  tuple : mg "tuple" = none
  list : mg "list" = none
  len : mg "len" = none
  max : mg "max" = none
  min : mg "min" = none
  abs : mg "abs" = none
  all : mg "all" = none
  range : mg "range" = none
  sum : mg "sum" = none
  sorted : mg "sorted" = none
  set : mg "set" = none
  g_TOO_GREAT : ∃ u, mg "_TOO_GREAT" = some u ∧ RelV (.int BIG) u
  gMAX_SIDE : ∃ u, mg "MAX_SIDE" = some u ∧ RelV (.int 7) u
  gMAX_LEVELS : ∃ u, mg "MAX_LEVELS" = some u ∧ RelV (.int 200) u
/-! ## the dice -/
section
variable {P : Program} {w : World} {K : PySem.W.Frag} {mg : Str → Option Value} {base : Heap}
theorem c_dice (T : Txt K mg) (D : DefAt K mg "_law_dice" s__law_dice ["_law_script", "_law_spot"]) : CalG P w K mg base 1 "_law_dice" ["_law_script", "_law_spot"] (spDice K) := by
  refine calOk D sc__law_dice (fun xs H Q E h => ?_) (fun f cdv A out s H xs Q E hgd hr h => ?_)
  · obtain ⟨a, ns, i, rfl, _⟩ := h
    rfl
  · obtain ⟨a, ns, i, rfl, hS, hz, k⟩ := h
    have nd := sc__law_dice.nd
    refine ⟨_, (pss_cons (ps_set (i := 2) nd rfl (.inl rfl) (pe_ifExp (pt_cmpR op_lt (pv 1) (pe_callB call_len_seq (by rfl) T.len (by decide +kernel) (pa_cons (pv 0) pa_nil)) (nomark _)) (pe_callTy call_int1 (by rfl) T.int (by decide +kernel) (pa_cons (pe_ix ix_list (pv 0) (pv 1) (fun _ _ => rfl)) pa_nil)) (pe_op op_add (pe_op op_mul pe_int (pv 1)) pe_int)))
      (pss_cons (ps_set (i := 3) nd rfl (.inl rfl) (pe_op op_mod (pe_callB (call_max2 rfl) (by rfl) T.max (by decide +kernel) (pa_cons pe_int (pa_cons (pe_op op_sub (pe_callB call_abs (by rfl) T.abs (by decide +kernel) (pa_cons (pv 2) pa_nil)) (pe_op op_pow pe_int pe_int)) pa_nil))) (pe_op op_mulW (pe_op op_pow pe_int pe_int) (pe_op op_pow pe_int pe_int))))
      (pss_one (ps_ret (pe_lst (pa_cons (pv 3) (pa_cons (pe_op op_add (pe_op op_add (pe_op op_add (pe_op op_mul (pe_op op_mod (pe_callB call_abs (by rfl) T.abs (by decide +kernel) (pa_cons (pv 2) pa_nil)) pe_int) pe_int) (pe_op op_mul pe_int (pv 1))) (pe_op op_mul pe_int (pe_callTy call_int1 (by rfl) T.int (by decide +kernel) (pa_cons (pe_cmpR op_lt (pv 2) pe_int (nomark _)) pa_nil)))) pe_int) (pa_cons pe_int pa_nil)))))))), ?_⟩
    refine ⟨_, rfl, _, rfl, _, _, rfl, .inl hS, _, _, rfl, rfl, _, rfl, ite2 (fun hi => ?_) (fun hi => ?_)⟩
    · have hlt : i < ns.length := by
        have := of_decide_eq_true hi
        rw [List.length_map] at this
        omega
      have hat : (ns.map V.int)[i]? = some (.int ns[i]) := by
        rw [List.getElem?_map, List.getElem?_eq_getElem hlt]
        rfl
      refine ⟨_, rfl, _, rfl, _, _, _, _, rfl, rfl, hS, atI_nat hat, .inl ⟨_, rfl, ?_⟩⟩
      refine ⟨_, rfl, _, rfl, _, _, rfl, rfl, ⟨by decide, by decide, by decide⟩, _, _, rfl, rfl, _, _, rfl, _, _, rfl, rfl, ⟨by decide, by decide, by decide⟩, _, _, rfl, rfl, ⟨by decide, by decide, by decide⟩, _, _, rfl, rfl, mul60, _, _, rfl, rfl, pos60, ?_⟩
      refine ⟨_, rfl, _, rfl, _, rfl, _, _, rfl, rfl, (by show (0 : Int) < 1152921504606846961; decide), _, _, rfl, rfl, .inr ⟨by decide, by decide⟩, _, rfl, _, _, rfl, rfl, .inl ⟨by decide, by decide⟩, _, _, rfl, rfl, _, rfl, _, _, rfl, rfl, .inr ⟨_, rfl, _, _, rfl, rfl, .inl ⟨by decide, by decide⟩, _, _, rfl, rfl, _, _, rfl, rfl, (by show 3 ≤ sizeLine; decide), fun p1 n1 => ?_⟩⟩
      exact k _ _ _ _ n1
    · refine ⟨_, rfl, _, _, rfl, rfl, .inl ⟨by decide, by decide⟩, _, _, rfl, rfl, ?_⟩
      refine ⟨_, rfl, _, rfl, _, _, rfl, rfl, ⟨by decide, by decide, by decide⟩, _, _, rfl, rfl, _, _, rfl, _, _, rfl, rfl, ⟨by decide, by decide, by decide⟩, _, _, rfl, rfl, ⟨by decide, by decide, by decide⟩, _, _, rfl, rfl, mul60, _, _, rfl, rfl, pos60, ?_⟩
      refine ⟨_, rfl, _, rfl, _, rfl, _, _, rfl, rfl, (by show (0 : Int) < 1152921504606846961; decide), _, _, rfl, rfl, .inr ⟨by decide, by decide⟩, _, rfl, _, _, rfl, rfl, .inl ⟨by decide, by decide⟩, _, _, rfl, rfl, _, rfl, _, _, rfl, rfl, .inr ⟨_, rfl, _, _, rfl, rfl, .inl ⟨by decide, by decide⟩, _, _, rfl, rfl, _, _, rfl, rfl, (by show 3 ≤ sizeLine; decide), fun p1 n1 => ?_⟩⟩
      exact k _ _ _ _ n1
theorem c_roll (T : Txt K mg) (D : DefAt K mg "_law_roll" s__law_roll ["_law_dice_here", "_law_total"]) : CalG P w K mg base 1 "_law_roll" ["_law_dice_here", "_law_total"] spRoll := by
  refine calOk D sc__law_roll (fun xs H Q E h => ?_) (fun f cdv A out s H xs Q E hgd hr h => ?_)
  · obtain ⟨d, t, rfl, _⟩ := h
    rfl
  · obtain ⟨d, t, rfl, ⟨l, sd, c, hd⟩, ht, hlog, k⟩ := h
    have nd := sc__law_roll.nd
    have fr : ∀ (u : HO) (b : Addr), H b = none → upd H d u b = none := fun u b e => by
      rw [upd_ne (fun q => by rw [q, hd] at e; cases e)]
      exact e
    refine ⟨_, (pss_cons (ps_if (pt_cmpR op_gt (pe_ix ix_list (pv 0) pe_int (fun _ _ => rfl)) pe_int (nomark _)) (pss_cons (ps_set (i := 2) nd rfl (.inl rfl) (pe_op op_mod (pe_callTy call_int1 (by rfl) T.int (by decide +kernel) (pa_cons (pe_ix ix_list (pv 0) pe_int (fun _ _ => rfl)) pa_nil)) (pv 1)))
        (pss_cons (ps_asg (pe_op op_fdivW (pe_ix ix_list (pv 0) pe_int (fun _ _ => rfl)) (pv 1)) (pg_sub (pv 0) pe_int set_list))
        (pss_one (ps_ret (pv 2))))) pss_nil)
      (pss_cons (ps_asg (pe_op op_add (pe_ix ix_list (pv 0) pe_int (fun _ _ => rfl)) pe_int) (pg_sub (pv 0) pe_int set_list))
      (pss_cons (ps_set (i := 3) nd rfl (.inl rfl) (pe_op op_mod (pe_callTy call_int1 (by rfl) T.int (by decide +kernel) (pa_cons (pe_op op_add (pe_ix ix_list (pv 0) pe_int (fun _ _ => rfl)) (pe_op op_mul pe_int (pe_ix ix_list (pv 0) pe_int (fun _ _ => rfl)))) pa_nil)) pe_int))
      (pss_cons (ps_set (i := 4) nd rfl (.inl rfl) (pe_op op_add (pe_op op_mul (pe_op op_mod (pe_callTy call_int1 (by rfl) T.int (by decide +kernel) (pa_cons (pe_op op_add (pe_op op_mulW (pv 3) (pv 3)) (pe_op op_mul pe_int (pe_ix ix_list (pv 0) pe_int (fun _ _ => rfl)))) pa_nil)) pe_int) pe_int) (pv 3)))
      (pss_one (ps_ret (pe_op op_mod (pe_callTy call_int1 (by rfl) T.int (by decide +kernel) (pa_cons (pe_op op_fdivW (pv 4) pe_int) pa_nil)) (pv 1)))))))), ?_⟩
    refine ⟨_, rfl, _, _, _, _, rfl, rfl, SqL.of hd, atI_nat (j := 0) rfl, _, _, rfl, rfl, _, rfl, ite2 (fun hl => ?_) (fun hl => ?_)⟩
    · refine ⟨_, rfl, _, _, _, _, rfl, rfl, SqL.of hd, atI_nat (j := 0) rfl, .inl ⟨_, rfl, _, rfl, _, _, rfl, rfl, ht, ?_⟩⟩
      refine ⟨_, rfl, _, _, _, _, rfl, rfl, SqL.of hd, atI_nat (j := 0) rfl, _, rfl, _, _, rfl, rfl, ⟨ht, hlog⟩, _, rfl, _, _, _, 0, rfl, rfl, hd, rfl, ?_⟩
      refine ⟨_, rfl, ?_⟩
      exact k _ _ (Int.emod_nonneg _ (by omega)) (Int.emod_lt_of_pos _ ht) (Mv.refl ⟨l, sd, c, hd⟩).rolled (fr _)
    · refine ⟨_, rfl, _, _, _, _, rfl, rfl, SqL.of hd, atI_nat (j := 2) rfl, _, _, rfl, rfl, _, rfl, _, _, _, 2, rfl, rfl, hd, rfl, ?_⟩
      have h1 : upd H d (.lst [.int l, .int sd, .int (c + 1)]) d = some (.lst [.int l, .int sd, .int (c + 1)]) := upd_same
      refine ⟨_, rfl, _, _, _, _, rfl, rfl, SqL.of h1, atI_nat (j := 1) rfl, _, rfl, _, _, _, _, rfl, rfl, SqL.of h1, atI_nat (j := 2) rfl, _, _, rfl, rfl, .inl ⟨by decide, by decide⟩, _, _, rfl, rfl, .inl ⟨_, rfl, _, _, rfl, rfl, (by show (0 : Int) < 2305843009213693669; decide), ?_⟩⟩
      have hb := Int.emod_lt_of_pos (sd + 32452843 * (c + 1)) (show (0 : Int) < 2305843009213693669 by decide)
      have hn := Int.emod_nonneg (sd + 32452843 * (c + 1)) (show (2305843009213693669 : Int) ≠ 0 by decide)
      have hs : ((sd + 32452843 * (c + 1)) % 2305843009213693669).natAbs < 2 ^ 62 := by
        have e : (2 : Nat) ^ 62 = 4611686018427387904 := by decide
        omega
      refine ⟨_, rfl, _, rfl, _, _, rfl, rfl, wide_mul hs hs (by decide) (by decide) (by decide), _, rfl, _, _, _, _, rfl, rfl, SqL.of h1, atI_nat (j := 2) rfl, _, _, rfl, rfl, .inl ⟨by decide, by decide⟩, _, _, rfl, rfl, .inl ⟨_, rfl, _, _, rfl, rfl, (by show (0 : Int) < 1152921504606846869; decide), _, _, rfl, rfl, .inr ⟨by decide, by decide⟩, _, rfl, _, _, rfl, rfl, ?_⟩⟩
      refine ⟨_, rfl, _, _, rfl, rfl, ⟨by decide, by decide +kernel⟩, .inl ⟨_, rfl, _, rfl, _, _, rfl, rfl, ht, ?_⟩⟩
      exact k _ _ (Int.emod_nonneg _ (by omega)) (Int.emod_lt_of_pos _ ht) (Mv.refl ⟨l, sd, c, hd⟩).rolled (fr _)
theorem c_pick (T : Txt K mg) (C__law_roll : CalG P w K mg base 1 "_law_roll" ["_law_dice_here", "_law_total"] spRoll) (D : DefAt K mg "_law_pick" s__law_pick ["_law_dice_here", "_law_items"]) : CalG P w K mg base 2 "_law_pick" ["_law_dice_here", "_law_items"] (spPick K) := by
  refine calOk D sc__law_pick (fun xs H Q E h => ?_) (fun f cdv A out s H xs Q E hgd hr h => ?_)
  · obtain ⟨d, a, ys, rfl, _⟩ := h
    rfl
  · obtain ⟨d, a, ys, rfl, hd, hS, ne, h0, hz, k⟩ := h
    have nd := sc__law_pick.nd
    refine ⟨_, (pss_one (ps_ret (pe_ix ix_list (pv 1) (pe_k C__law_roll hgd hr (by decide) rfl (pa_cons (pv 0) (pa_cons (pe_callB call_len_seq (by rfl) T.len (by decide +kernel) (pa_cons (pv 1) pa_nil)) pa_nil))) (fun _ _ => rfl)))), ?_⟩
    have small : ((ys.length : Nat) : Int).natAbs.log2 < 9000 := by
      have e : ((ys.length : Nat) : Int).natAbs = ys.length := Int.natAbs_natCast _
      rw [e]
      exact Nat.lt_of_le_of_lt (Nat.log2_le_self _) (by omega)
    refine ⟨_, rfl, _, rfl, _, rfl, _, _, rfl, .inl hS, _, _, rfl, hd, (by omega), small, fun r1 H1 a1 b1 m1 f1 => ?_⟩
    obtain ⟨i, rfl⟩ : ∃ i : Nat, r1 = (i : Int) := ⟨r1.toNat, by omega⟩
    have hi : i < ys.length := by omega
    refine ⟨_, _, _, _, rfl, rfl, m1.sql ne hS, atI_nat (List.getElem?_eq_getElem hi), k _ _ _ (List.getElem?_eq_getElem hi) m1 f1⟩
end


/-! ## is_integer, is_pair, is_form, are_forms, is_row: judges over data -/
section
variable {P : Program} {w : World} {K : PySem.W.Frag} {mg : Str → Option Value} {base : Heap}
theorem c_is_integer (T : Txt K mg) (D : DefAt K mg "is_integer" s_is_integer ["value"]) : CalG P w K mg base 1 "is_integer" ["value"] (spJ intB) := by
  refine calOk D sc_is_integer (fun xs H Q E h => ?_) (fun f cdv A out s H xs Q E hgd hr h => ?_)
  · obtain ⟨x, d, rfl, _⟩ := h
    rfl
  · obtain ⟨x, d, rfl, hx, k⟩ := h
    have nd := sc_is_integer.nd
    refine ⟨_, (pss_one (ps_ret (pe_and (pe_callB call_isi (by rfl) T.isinstance (by decide +kernel) (pa_cons (pv 0) (pa_cons (pe_ty "int" rfl T.int (by decide +kernel)) pa_nil))) (pe_and (pe_not (pe_callB call_isi (by rfl) T.isinstance (by decide +kernel) (pa_cons (pv 0) (pa_cons (pe_ty "bool" rfl T.bool (by decide +kernel)) pa_nil)))) (pe_one (pe_chain op_lt op_lt (pe_un un_neg (pe_gv rfl T.g_TOO_GREAT)) (pv 0) (pe_gv rfl T.g_TOO_GREAT))))))), ?_⟩
    cases hx with
    | int i =>
      have k' : Q (.bl (smallB i)) H := k H (Same.refl _)
      refine ⟨_, rfl, _, _, _, _, true, rfl, .ty _, .base (.int i), kit_ty (by decide +kernel), true, rfl, iteT ?_⟩
      refine ⟨_, rfl, _, _, _, _, false, rfl, .ty _, .base (.int i), kit_ty (by decide +kernel), false, rfl, true, rfl, iteT ?_⟩
      refine ⟨_, rfl, _, rfl, _, _, rfl, rfl, _, rfl, ite2 (fun h1 => ?_) (fun h1 => ?_)⟩
      · refine ⟨_, _, rfl, rfl, ?_⟩
        have e : smallB i = decide (i < BIG) := by
          unfold smallB
          rw [h1]
          rfl
        rw [e] at k'
        exact k'
      · have e : smallB i = false := by
          unfold smallB
          rw [Bool.eq_false_iff.mpr h1]
          rfl
        rw [e] at k'
        exact k'
    | bl b =>
      refine ⟨_, rfl, _, _, _, _, true, rfl, .ty _, .base (.bl b), kit_ty (by decide +kernel), true, rfl, iteT ?_⟩
      refine ⟨_, rfl, _, _, _, _, true, rfl, .ty _, .base (.bl b), kit_ty (by decide +kernel), true, rfl, false, rfl, iteF ?_⟩
      exact k H (Same.refl _)
    | non => exact ⟨_, rfl, _, _, _, _, false, rfl, .ty _, Dx.ty .non, kit_ty (by decide +kernel), false, rfl, iteF (k H (Same.refl _))⟩
    | str x => exact ⟨_, rfl, _, _, _, _, false, rfl, .ty _, Dx.ty (.str x), kit_ty (by show kitB "str" _ = _; decide +kernel), false, rfl, iteF (k H (Same.refl _))⟩
    | lst h1 h2 => exact ⟨_, rfl, _, _, _, _, false, rfl, .ty _, Dx.ty (.lst h1 h2), kit_ty (by show kitB "list" _ = _; decide +kernel), false, rfl, iteF (k H (Same.refl _))⟩
    | tup h1 h2 => exact ⟨_, rfl, _, _, _, _, false, rfl, .ty _, Dx.ty (.tup h1 h2), kit_ty (by show kitB "tuple" _ = _; decide +kernel), false, rfl, iteF (k H (Same.refl _))⟩
    | dct h1 h2 => exact ⟨_, rfl, _, _, _, _, false, rfl, .ty _, Dx.ty (.dct h1 h2), kit_ty (by show kitB "dict" _ = _; decide +kernel), false, rfl, iteF (k H (Same.refl _))⟩
theorem c_is_pair (T : Txt K mg) (C_is_integer : CalG P w K mg base 1 "is_integer" ["value"] (spJ intB)) (D : DefAt K mg "is_pair" s_is_pair ["value"]) : CalG P w K mg base 2 "is_pair" ["value"] (spJ pairB) := by
  refine calOk D sc_is_pair (fun xs H Q E h => ?_) (fun f cdv A out s H xs Q E hgd hr h => ?_)
  · obtain ⟨x, d, rfl, _⟩ := h
    rfl
  · obtain ⟨x, d, rfl, hx, k⟩ := h
    have nd := sc_is_pair.nd
    refine ⟨_, (pss_one (ps_ret (pe_and (pe_callB call_isi (by rfl) T.isinstance (by decide +kernel) (pa_cons (pv 0) (pa_cons (pe_ty "tuple" rfl T.tuple (by decide +kernel)) pa_nil))) (pe_and (pe_cmpR op_eq (pe_callB call_len_seq (by rfl) T.len (by decide +kernel) (pa_cons (pv 0) pa_nil)) pe_int (nomark _)) (pe_and (pe_k C_is_integer hgd hr (by decide) rfl (pa_cons (pe_ix ix_tup (pv 0) pe_int (fun _ _ => rfl)) pa_nil)) (pe_one (pe_k C_is_integer hgd hr (by decide) rfl (pa_cons (pe_ix ix_tup (pv 0) pe_int (fun _ _ => rfl)) pa_nil)))))))), ?_⟩
    cases hx with
    | tup h1 h2 =>
      rename_i a xs ds
      have hl := h2.len
      refine ⟨_, rfl, _, _, _, _, true, rfl, .ty _, Dx.ty (.tup h1 h2), kit_ty (by show kitB "tuple" _ = _; decide +kernel), true, rfl, iteT ?_⟩
      refine ⟨_, rfl, _, _, rfl, .inr (SqT.of h1), rfl, _, rfl, ite2 (fun q => ?_) (fun q => ?_)⟩
      · have two : xs.length = 2 := by
          have := V.int.inj (of_decide_eq_true q)
          omega
        cases h2 with
        | nil => cases two
        | cons y1 r1 =>
          cases r1 with
          | nil => cases two
          | cons y2 r2 =>
            cases r2 with
            | cons _ _ => simp at two
            | nil =>
              refine ⟨_, rfl, _, _, _, _, rfl, rfl, SqT.of h1, atI_nat (j := 0) rfl, _, _, rfl, y1, fun H1 s1 => ?_⟩
              refine ⟨_, rfl, ite2 (fun q1 => ?_) (fun q1 => ?_)⟩
              · refine ⟨_, rfl, _, _, _, _, rfl, rfl, SqT.of (s1 _ _ h1), atI_nat (j := 1) rfl, _, _, rfl, y2.grow s1, fun H2 s2 => ?_⟩
                have e := k H2 (s1.trans s2)
                simp only [pairB, q1, Bool.true_and] at e
                exact e
              · have e := k H1 s1
                simp only [pairB, Bool.eq_false_iff.mpr q1, Bool.false_and] at e
                exact e
      · have e := k H (Same.refl _)
        have nf : pairB (.tuple ds) = false := by
          match ds, hl with
          | [], _ => rfl
          | [_], _ => rfl
          | [_, _], hl => exact absurd (decide_eq_true (show V.int (xs.length : Int) = V.int 2 by rw [hl]; rfl)) q
          | _ :: _ :: _ :: _, _ => rfl
        rw [nf] at e
        exact e
    | int i => exact ⟨_, rfl, _, _, _, _, false, rfl, .ty _, Dx.ty (.int i), kit_ty (by show kitB "int" _ = _; decide +kernel), false, rfl, iteF (k H (Same.refl _))⟩
    | bl b => exact ⟨_, rfl, _, _, _, _, false, rfl, .ty _, Dx.ty (.bl b), kit_ty (by show kitB "bool" _ = _; decide +kernel), false, rfl, iteF (k H (Same.refl _))⟩
    | non => exact ⟨_, rfl, _, _, _, _, false, rfl, .ty _, Dx.ty .non, kit_ty (by decide +kernel), false, rfl, iteF (k H (Same.refl _))⟩
    | str x => exact ⟨_, rfl, _, _, _, _, false, rfl, .ty _, Dx.ty (.str x), kit_ty (by show kitB "str" _ = _; decide +kernel), false, rfl, iteF (k H (Same.refl _))⟩
    | lst h1 h2 => exact ⟨_, rfl, _, _, _, _, false, rfl, .ty _, Dx.ty (.lst h1 h2), kit_ty (by show kitB "list" _ = _; decide +kernel), false, rfl, iteF (k H (Same.refl _))⟩
    | dct h1 h2 => exact ⟨_, rfl, _, _, _, _, false, rfl, .ty _, Dx.ty (.dct h1 h2), kit_ty (by show kitB "dict" _ = _; decide +kernel), false, rfl, iteF (k H (Same.refl _))⟩
theorem form_pair {d : PyData} (h : formB d = true) : pairB d = true := by
  match d, h with
  | .tuple [.int a, .int b], h =>
    have h' : (decide (0 ≤ a) && decide (a ≤ 7)) = true ∧ (decide (0 ≤ b) && decide (b ≤ 7)) = true := by simpa [formB, sideB] using h
    have g : ∀ i : Int, (decide (0 ≤ i) && decide (i ≤ 7)) = true → smallB i = true := fun i q => by
      have q' : 0 ≤ i ∧ i ≤ 7 := by simpa using q
      unfold smallB BIG
      rw [decide_eq_true (by omega), decide_eq_true (by omega)]
      rfl
    show (smallB a && smallB b) = true
    rw [g a h'.1, g b h'.2]
    rfl
  | .tuple [.none, _], h => simp [formB, sideB] at h
  | .tuple [.bool _, _], h => simp [formB, sideB] at h
  | .tuple [.str _, _], h => simp [formB, sideB] at h
  | .tuple [.list _, _], h => simp [formB, sideB] at h
  | .tuple [.tuple _, _], h => simp [formB, sideB] at h
  | .tuple [.dict _, _], h => simp [formB, sideB] at h
  | .tuple [.int _, .none], h => simp [formB, sideB] at h
  | .tuple [.int _, .bool _], h => simp [formB, sideB] at h
  | .tuple [.int _, .str _], h => simp [formB, sideB] at h
  | .tuple [.int _, .list _], h => simp [formB, sideB] at h
  | .tuple [.int _, .tuple _], h => simp [formB, sideB] at h
  | .tuple [.int _, .dict _], h => simp [formB, sideB] at h
  | .tuple [], h => simp [formB] at h
  | .tuple [_], h => simp [formB] at h
  | .tuple (_ :: _ :: _ :: _), h => simp [formB] at h
  | .none, h => simp [formB] at h
  | .bool _, h => simp [formB] at h
  | .int _, h => simp [formB] at h
  | .str _, h => simp [formB] at h
  | .list _, h => simp [formB] at h
  | .dict _, h => simp [formB] at h
theorem pair_ints {d : PyData} (h : pairB d = true) : ∃ a b, d = .tuple [.int a, .int b] := by
  match d, h with
  | .tuple [a, b], h =>
    have h' : intB a = true ∧ intB b = true := by simpa [pairB] using h
    match a, b, h' with
    | .int i, .int j, _ => exact ⟨i, j, rfl⟩
    | .none, _, h => simp [intB] at h
    | .bool _, _, h => simp [intB] at h
    | .str _, _, h => simp [intB] at h
    | .list _, _, h => simp [intB] at h
    | .tuple _, _, h => simp [intB] at h
    | .dict _, _, h => simp [intB] at h
    | .int _, .none, h => simp [intB] at h
    | .int _, .bool _, h => simp [intB] at h
    | .int _, .str _, h => simp [intB] at h
    | .int _, .list _, h => simp [intB] at h
    | .int _, .tuple _, h => simp [intB] at h
    | .int _, .dict _, h => simp [intB] at h
  | .tuple [], h => simp [pairB] at h
  | .tuple [_], h => simp [pairB] at h
  | .tuple (_ :: _ :: _ :: _), h => simp [pairB] at h
  | .none, h => simp [pairB] at h
  | .bool _, h => simp [pairB] at h
  | .int _, h => simp [pairB] at h
  | .str _, h => simp [pairB] at h
  | .list _, h => simp [pairB] at h
  | .dict _, h => simp [pairB] at h
def within (d : PyData) (lo hi : Int) : Bool := intB d && match d with
  | .int i => decide (lo ≤ i) && decide (i ≤ hi)
  | _ => false
def spWithin : Sp := fun vs H Q _ => ∃ (x : V) (d : PyData) (lo hi : Int), vs = [x, .int lo, .int hi] ∧ Dx H x d ∧ ∀ H', Same H H' → Q (.bl (within d lo hi)) H'
theorem int_of {d : PyData} (h : intB d = true) : ∃ i, d = .int i := by
  match d, h with
  | .int i, _ => exact ⟨i, rfl⟩
  | .none, h => simp [intB] at h
  | .bool _, h => simp [intB] at h
  | .str _, h => simp [intB] at h
  | .list _, h => simp [intB] at h
  | .tuple _, h => simp [intB] at h
  | .dict _, h => simp [intB] at h
theorem c_is_within (T : Txt K mg) (C_is_integer : CalG P w K mg base 1 "is_integer" ["value"] (spJ intB)) (D : DefAt K mg "is_within" s_is_within ["value", "least", "greatest"]) : CalG P w K mg base 2 "is_within" ["value", "least", "greatest"] spWithin := by
  refine calOk D sc_is_within (fun xs H Q E h => ?_) (fun f cdv A out s H xs Q E hgd hr h => ?_)
  · obtain ⟨x, d, lo, hi, rfl, _⟩ := h
    rfl
  · obtain ⟨x, d, lo, hi, rfl, hx, k⟩ := h
    have nd := sc_is_within.nd
    refine ⟨_, (pss_one (ps_ret (pe_and (pe_k C_is_integer hgd hr (by decide) rfl (pa_cons (pv 0) pa_nil)) (pe_one (pe_chain op_le op_le (pv 1) (pv 0) (pv 2)))))), ?_⟩
    refine ⟨_, rfl, _, _, rfl, hx, fun H1 s1 => ⟨_, rfl, ite2 (fun q => ?_) (fun q => ?_)⟩⟩
    · obtain ⟨i, rfl⟩ := int_of q
      cases hx
      have e := k H1 s1
      unfold within at e
      rw [q, Bool.true_and] at e
      replace e : Q (.bl (decide (lo ≤ i) && decide (i ≤ hi))) H1 := e
      refine ⟨_, rfl, _, rfl, _, _, rfl, rfl, _, rfl, ite2 (fun q1 => ?_) (fun q1 => ?_)⟩
      · refine ⟨_, rfl, _, _, rfl, rfl, ?_⟩
        rw [show decide (lo ≤ i) = true from q1, Bool.true_and] at e
        exact e
      · rw [show decide (lo ≤ i) = false from Bool.eq_false_iff.mpr q1, Bool.false_and] at e
        exact e
    · have e := k H1 s1
      unfold within at e
      rw [Bool.eq_false_iff.mpr q, Bool.false_and] at e
      exact e
def pairWithin (d : PyData) (lo hi : Int) : Bool := pairB d && match d with
  | .tuple [.int a, .int b] => decide (lo ≤ min a b) && decide (max a b ≤ hi)
  | _ => false
def spPairWithin : Sp := fun vs H Q _ => ∃ (x : V) (d : PyData) (lo hi : Int), vs = [x, .int lo, .int hi] ∧ Dx H x d ∧ ∀ H', Same H H' → Q (.bl (pairWithin d lo hi)) H'
theorem c_is_pair_within (T : Txt K mg) (C_is_pair : CalG P w K mg base 2 "is_pair" ["value"] (spJ pairB)) (D : DefAt K mg "is_pair_within" s_is_pair_within ["value", "least", "greatest"]) : CalG P w K mg base 3 "is_pair_within" ["value", "least", "greatest"] spPairWithin := by
  refine calOk D sc_is_pair_within (fun xs H Q E h => ?_) (fun f cdv A out s H xs Q E hgd hr h => ?_)
  · obtain ⟨x, d, lo, hi, rfl, _⟩ := h
    rfl
  · obtain ⟨x, d, lo, hi, rfl, hx, k⟩ := h
    have nd := sc_is_pair_within.nd
    refine ⟨_, (pss_one (ps_ret (pe_and (pe_k C_is_pair hgd hr (by decide) rfl (pa_cons (pv 0) pa_nil)) (pe_and (pe_cmpR op_le (pv 1) (pe_callB (cr_min2T rfl hr.units) (by rfl) T.min (by decide +kernel) (pa_cons (pv 0) pa_nil)) (nomark _)) (pe_one (pe_cmpR op_le (pe_callB (cr_max2T rfl hr.units) (by rfl) T.max (by decide +kernel) (pa_cons (pv 0) pa_nil)) (pv 2) (nomark _))))))), ?_⟩
    refine ⟨_, rfl, _, _, rfl, hx, fun H1 s1 => ⟨_, rfl, ite2 (fun q => ?_) (fun q => ?_)⟩⟩
    · obtain ⟨a, b, rfl⟩ := pair_ints q
      have hx1 := hx.grow s1
      have e := k H1 s1
      unfold pairWithin at e
      rw [q, Bool.true_and] at e
      replace e : Q (.bl (decide (lo ≤ min a b) && decide (max a b ≤ hi))) H1 := e
      cases hx1 with
      | tup h1 h2 =>
        cases h2 with
        | cons y1 r1 =>
          cases r1 with
          | cons y2 r2 =>
            cases r2
            cases y1
            cases y2
            refine ⟨_, rfl, _, rfl, _, _, _, rfl, h1, _, _, rfl, rfl, _, rfl, ite2 (fun q1 => ?_) (fun q1 => ?_)⟩
            · refine ⟨_, rfl, _, _, _, rfl, h1, _, rfl, _, _, rfl, rfl, ?_⟩
              rw [show decide (lo ≤ min a b) = true from q1, Bool.true_and] at e
              exact e
            · rw [show decide (lo ≤ min a b) = false from Bool.eq_false_iff.mpr q1, Bool.false_and] at e
              exact e
    · have e := k H1 s1
      unfold pairWithin at e
      rw [Bool.eq_false_iff.mpr q, Bool.false_and] at e
      exact e
theorem within_form (d : PyData) : pairWithin d 0 7 = formB d := by
  unfold pairWithin
  cases h : formB d with
  | true =>
    obtain ⟨a, b, rfl⟩ := pair_ints (form_pair h)
    rw [form_pair h, Bool.true_and]
    simp only [formB, sideB, Bool.and_eq_true, decide_eq_true_eq] at h
    rw [Bool.and_eq_true, decide_eq_true_eq, decide_eq_true_eq]
    omega
  | false =>
    cases hp : pairB d with
    | false => rfl
    | true =>
      obtain ⟨a, b, rfl⟩ := pair_ints hp
      rw [Bool.true_and]
      simp only [formB, sideB] at h
      rw [Bool.eq_false_iff] at h ⊢
      intro z
      refine h ?_
      rw [Bool.and_eq_true, decide_eq_true_eq, decide_eq_true_eq] at z
      simp only [Bool.and_eq_true, decide_eq_true_eq]
      omega
theorem c_is_form (T : Txt K mg) (C_is_pair_within : CalG P w K mg base 3 "is_pair_within" ["value", "least", "greatest"] spPairWithin) (D : DefAt K mg "is_form" s_is_form ["value"]) : CalG P w K mg base 4 "is_form" ["value"] (spJ formB) := by
  refine calOk D sc_is_form (fun xs H Q E h => ?_) (fun f cdv A out s H xs Q E hgd hr h => ?_)
  · obtain ⟨x, d, rfl, _⟩ := h
    rfl
  · obtain ⟨x, d, rfl, hx, k⟩ := h
    have nd := sc_is_form.nd
    refine ⟨_, (pss_one (ps_ret (pe_k C_is_pair_within hgd hr (by decide) rfl (pa_cons (pv 0) (pa_cons pe_int (pa_cons (pe_gv rfl T.gMAX_SIDE) pa_nil)))))), ?_⟩
    refine ⟨_, rfl, x, d, 0, 7, rfl, hx, fun H1 s1 => ?_⟩
    rw [within_form]
    exact k H1 s1
theorem c_are_forms (T : Txt K mg) (C_is_form : CalG P w K mg base 4 "is_form" ["value"] (spJ formB)) (D : DefAt K mg "are_forms" s_are_forms ["value"]) : CalG P w K mg base 5 "are_forms" ["value"] (spJ formsB) := by
  refine calOk D sc_are_forms (fun xs H Q E h => ?_) (fun f cdv A out s H xs Q E hgd hr h => ?_)
  · obtain ⟨x, d, rfl, _⟩ := h
    rfl
  · obtain ⟨x, d, rfl, hx, k⟩ := h
    have nd := sc_are_forms.nd
    refine ⟨_, (pss_one (ps_ret (pe_and (pe_callB call_isi (by rfl) T.isinstance (by decide +kernel) (pa_cons (pv 0) (pa_cons (pe_ty "tuple" rfl T.tuple (by decide +kernel)) pa_nil))) (pe_and (pe_cmpR op_le (pe_callB call_len_seq (by rfl) T.len (by decide +kernel) (pa_cons (pv 0) pa_nil)) (pe_gv rfl T.gMAX_LEVELS) (nomark _)) (pe_one (pe_callB (cr_all rfl) (by rfl) T.all (by decide +kernel) (pa_cons (pe_lc (own := [("form", 1)]) (g := gName 1) (by rfl) nd (pi_tup (pv 0)) (blkOk_by (own := [("form", 1)]) (N := N_are_forms) (sc := defScope s_are_forms) (by decide +kernel)) (fun _ _ _ _ _ => pg_name (i := 1) nd rfl (.inl rfl)) (fun _ _ _ _ _ => pts_nil) (fun _ _ _ _ _ => pe_k C_is_form hgd hr (by decide) rfl (pa_cons (pv 1) pa_nil))) pa_nil))))))), ?_⟩
    cases hx with
    | tup h1 h2 =>
      rename_i a xs ds
      have hl := h2.len
      refine ⟨_, rfl, _, _, _, _, true, rfl, .ty _, Dx.ty (.tup h1 h2), kit_ty (by show kitB "tuple" _ = _; decide +kernel), true, rfl, iteT ?_⟩
      refine ⟨_, rfl, _, _, rfl, .inr (SqT.of h1), _, _, rfl, rfl, _, rfl, ite2 (fun q => ?_) (fun q => ?_)⟩
      · have few : xs.length ≤ 200 := by
          have := of_decide_eq_true q
          omega
        refine ⟨_, rfl, a, rfl, ⟨_, SqT.of h1⟩, fun Dl nD => ?_⟩
        refine lc_tup (K := K) (a := a) (xs := xs) (fun i H' => Same H H' ∧ H' Dl = some (.lst (((ds.take i).map formB).map V.bl))) ?_ ?_ ?_ ?_
        · exact ⟨same_new nD, upd_same⟩
        · rintro i H' _ ⟨s1, _⟩
          exact SqT.of (s1 _ _ h1)
        · rintro i x H' hi ⟨s1, hD⟩
          obtain ⟨d, hd, hx⟩ := h2.get i x hi
          refine ⟨rfl, ?_⟩
          refine ⟨_, rfl, _, d, rfl, hx.grow s1, fun H2 s2 => ?_⟩
          refine ⟨_, s2 _ _ hD, ?_, Same.put (s1.trans s2) nD, ?_⟩
          · rw [List.length_map, List.length_map, List.length_take]
            exact small1000 (by omega)
          · rw [upd_same, List.take_add_one, hd, List.map_append, List.map_append]
            rfl
        · rintro H' ⟨s1, hD⟩
          refine ⟨Dl, _, rfl, SqL.of hD, ?_⟩
          have e := k H' s1
          have ef : formsB (.tuple ds) = ((ds.take xs.length).map formB).all id := by
            rw [hl, List.take_length]
            simp only [formsB]
            rw [decide_eq_true (by omega), Bool.true_and, List.all_map]
            rfl
          rw [ef] at e
          exact e
      · have e := k H (Same.refl _)
        have nf : formsB (.tuple ds) = false := by
          simp only [formsB]
          rw [decide_eq_false (fun z => q (decide_eq_true (by omega))), Bool.false_and]
        rw [nf] at e
        exact e
    | int i => exact ⟨_, rfl, _, _, _, _, false, rfl, .ty _, Dx.ty (.int i), kit_ty (by show kitB "int" _ = _; decide +kernel), false, rfl, iteF (k H (Same.refl _))⟩
    | bl b => exact ⟨_, rfl, _, _, _, _, false, rfl, .ty _, Dx.ty (.bl b), kit_ty (by show kitB "bool" _ = _; decide +kernel), false, rfl, iteF (k H (Same.refl _))⟩
    | non => exact ⟨_, rfl, _, _, _, _, false, rfl, .ty _, Dx.ty .non, kit_ty (by decide +kernel), false, rfl, iteF (k H (Same.refl _))⟩
    | str x => exact ⟨_, rfl, _, _, _, _, false, rfl, .ty _, Dx.ty (.str x), kit_ty (by show kitB "str" _ = _; decide +kernel), false, rfl, iteF (k H (Same.refl _))⟩
    | lst h1 h2 => exact ⟨_, rfl, _, _, _, _, false, rfl, .ty _, Dx.ty (.lst h1 h2), kit_ty (by show kitB "list" _ = _; decide +kernel), false, rfl, iteF (k H (Same.refl _))⟩
    | dct h1 h2 => exact ⟨_, rfl, _, _, _, _, false, rfl, .ty _, Dx.ty (.dct h1 h2), kit_ty (by show kitB "dict" _ = _; decide +kernel), false, rfl, iteF (k H (Same.refl _))⟩
theorem forms_all {ds : List PyData} (h : formsB (.tuple ds) = true) : ds.length ≤ 200 ∧ ∀ d ∈ ds, formB d = true := by
  have h' : ds.length ≤ 200 ∧ ds.all formB = true := by
    simp only [formsB, Bool.and_eq_true, decide_eq_true_eq] at h
    exact h
  exact ⟨h'.1, fun d hd => List.all_eq_true.mp h'.2 d hd⟩
theorem form_ints {d : PyData} (h : formB d = true) : ∃ a b, d = .tuple [.int a, .int b] := pair_ints (form_pair h)
theorem form_plain {d : PyData} (h : formB d = true) : d.canLay0 = true ∧ d.depth ≤ 1 ∧ d.hasDict = false := by
  obtain ⟨a, b, rfl⟩ := form_ints h
  exact ⟨by simp [PyData.canLay0, PyData.canLayAll0], by simp [PyData.depth, PyData.depthAll], by simp [PyData.hasDict, PyData.hasDictAll]⟩
theorem dictAll0 : ∀ (xs : List PyData), (∀ x ∈ xs, x.hasDict = false) → PyData.hasDictAll xs = false
  | [], _ => by simp [PyData.hasDictAll]
  | x :: r, h => by
    rw [PyData.hasDictAll, h x List.mem_cons_self, dictAll0 r fun y hy => h y (List.mem_cons_of_mem _ hy)]
    rfl
theorem forms_plain {ds : List PyData} (h : ∀ d ∈ ds, formB d = true) : SeqAt.shaped (.tuple ds) = true ∧ (PyData.tuple ds).hasDict = false := by
  have q1 : PyData.canLayAll0 ds = true := by
    have := canAll id ds fun d hd => (form_plain (h d hd)).1
    rwa [List.map_id] at this
  have q2 : PyData.depthAll ds ≤ 1 := by
    have := depthAll0 1 id ds fun d hd => (form_plain (h d hd)).2.1
    rwa [List.map_id] at this
  refine ⟨?_, ?_⟩
  · show (PyData.canLay0 (.tuple ds) && decide (PyData.depth (.tuple ds) ≤ 64)) = true
    rw [Bool.and_eq_true_iff]
    exact ⟨by simp only [PyData.canLay0]; exact q1, decide_eq_true (by simp only [PyData.depth]; omega)⟩
  · simp only [PyData.hasDict]
    exact dictAll0 ds fun d hd => (form_plain (h d hd)).2.2
theorem c_is_row (T : Txt K mg) (C_are_forms : CalG P w K mg base 5 "are_forms" ["value"] (spJ formsB)) (D : DefAt K mg "is_row" s_is_row ["value"]) : CalG P w K mg base 6 "is_row" ["value"] (spJ rowB) := by
  refine calOk D sc_is_row (fun xs H Q E h => ?_) (fun f cdv A out s H xs Q E hgd hr h => ?_)
  · obtain ⟨x, d, rfl, _⟩ := h
    rfl
  · obtain ⟨x, d, rfl, hx, k⟩ := h
    have nd := sc_is_row.nd
    refine ⟨_, (pss_one (ps_ret (pe_and (pe_k C_are_forms hgd hr (by decide) rfl (pa_cons (pv 0) pa_nil)) (pe_one (pe_or (pe_cmpR (op_eqD hr.units) (pv 0) (pe_tup pa_nil) (nomark _)) (pe_one (pe_cmpR (op_neD hr.units) (pe_ix ix_tup (pv 0) (pe_un un_neg pe_int) (fun _ _ => rfl)) (pe_tup (pa_cons pe_int (pa_cons pe_int pa_nil))) (nomark _)))))))), ?_⟩
    refine ⟨_, rfl, _, d, rfl, hx, fun H1 s1 => ⟨_, rfl, ite2 (fun q => ?_) (fun q => ?_)⟩⟩
    · obtain ⟨ds, rfl⟩ : ∃ ds, d = .tuple ds := by
        match d, q with
        | .tuple ds, _ => exact ⟨ds, rfl⟩
        | .none, q => simp [formsB] at q
        | .bool _, q => simp [formsB] at q
        | .int _, q => simp [formsB] at q
        | .str _, q => simp [formsB] at q
        | .list _, q => simp [formsB] at q
        | .dict _, q => simp [formsB] at q
      obtain ⟨few, allf⟩ := forms_all q
      obtain ⟨sh, nodict⟩ := forms_plain allf
      have e0 : rowB (.tuple ds) = (ds.isEmpty || !PyData.eqv (ds.getLastD .none) zeroD) := by
        simp only [rowB]
        rw [q, Bool.true_and]
      have hx1 := hx.grow s1
      refine ⟨_, rfl, (by show 0 ≤ sizeLine; decide), fun p np => ?_⟩
      refine ⟨.tuple ds, .tuple [], (hx1.grow (same_new np)).dp nodict, .tup (SqT.of upd_same) .nil, sh, (by decide +kernel), _, rfl, ite2 (fun q1 => ?_) (fun q1 => ?_)⟩
      · have e := k _ (s1.trans (same_new (o := .tup []) np))
        have em : ds = [] := by
          match ds, q1 with
          | [], _ => rfl
          | _ :: _, q1 => simp [PyData.eqv, PyData.eqvAll] at q1
        rw [e0, em] at e
        exact e
      · have ne : ds ≠ [] := fun z => by
          rw [z] at q1
          exact q1 (by decide +kernel)
        cases hx1 with
        | tup h1 h2 =>
          rename_i a ys
          have hl := h2.len
          obtain ⟨ys0, y, rfl⟩ : ∃ ys0 y, ys = ys0 ++ [y] := by
            rcases List.eq_nil_or_concat ys with z | ⟨i, y, z⟩
            · rw [z] at hl
              exact absurd (List.eq_nil_of_length_eq_zero hl.symm) ne
            · exact ⟨i, y, by rw [z, List.concat_eq_append]⟩
          obtain ⟨dy, hdy, hy⟩ := h2.get ys0.length y (by simp)
          have last : ds.getLastD .none = dy := by
            rw [List.getLastD_eq_getLast?, List.getLast?_eq_getElem?]
            have : ds.length - 1 = ys0.length := by
              rw [← hl, List.length_append]
              simp
            rw [this, hdy]
            rfl
          have fy : formB dy = true := allf dy (List.mem_of_getElem? hdy)
          obtain ⟨c1, c2, c3⟩ := form_plain fy
          refine ⟨_, rfl, _, rfl, _, _, _, _, rfl, rfl, SqT.of (same_new np _ _ h1), atI_last ys0 y, ?_⟩
          refine ⟨(by show 2 ≤ sizeLine; decide), fun p2 np2 => ?_⟩
          refine ⟨dy, zeroD, ((hy.grow (same_new np)).grow (same_new np2)).dp c3, .tup (SqT.of upd_same) (.cons (.int 0) (.cons (.int 0) .nil)), ?_, (by decide +kernel), ?_⟩
          · show (PyData.canLay0 dy && decide (PyData.depth dy ≤ 64)) = true
            rw [c1, decide_eq_true (by omega)]
            rfl
          · have e := k _ ((s1.trans (same_new (o := .tup []) np)).trans (same_new (o := .tup [.int 0, .int 0]) np2))
            have em : ds.isEmpty = false := by
              cases ds with
              | nil => exact absurd rfl ne
              | cons _ _ => rfl
            rw [e0, last, em, Bool.false_or] at e
            exact e
    · have e := k H1 s1
      have nf : rowB d = false := by
        match d, q with
        | .tuple ds, q =>
          simp only [rowB]
          rw [Bool.eq_false_iff.mpr q, Bool.false_and]
        | .none, _ => rfl
        | .bool _, _ => rfl
        | .int _, _ => rfl
        | .str _, _ => rfl
        | .list _, _ => rfl
        | .dict _, _ => rfl
      rw [nf] at e
      exact e
end

/-! ## the law's rows: lists of pairs of numbers -/
def formD (f : Int × Int) : PyData := .tuple [.int f.1, .int f.2]
def rowD (fs : List (Int × Int)) : PyData := .tuple (fs.map formD)
def cutF (fs : List (Int × Int)) : List (Int × Int) := (fs.reverse.dropWhile fun f => decide (f = (0, 0))).reverse
theorem cutF_nil : cutF [] = [] := rfl
theorem cutF_zero (fs : List (Int × Int)) : cutF (fs ++ [(0, 0)]) = cutF fs := by
  unfold cutF
  rw [List.reverse_append]
  simp
theorem cutF_last (fs : List (Int × Int)) {f : Int × Int} (h : f ≠ (0, 0)) : cutF (fs ++ [f]) = fs ++ [f] := by
  unfold cutF
  rw [List.reverse_append]
  simp [h]
theorem cutF_cut (fs : List (Int × Int)) : cutF (cutF fs) = cutF fs := by
  unfold cutF
  rw [List.reverse_reverse]
  congr 1
  generalize fs.reverse = l
  induction l with
  | nil => rfl
  | cons x r ih =>
    by_cases h : x = (0, 0)
    · simp [h, ih]
    · simp [h]
theorem cutF_sub (fs : List (Int × Int)) : (cutF fs).length ≤ fs.length ∧ ∀ f ∈ cutF fs, f ∈ fs := by
  unfold cutF
  have h1 := (List.dropWhile_suffix (l := fs.reverse) fun f => decide (f = (0, 0)))
  refine ⟨?_, fun f hf => ?_⟩
  · have := h1.length_le
    simpa using this
  · have := h1.subset (List.mem_reverse.mp hf)
    exact List.mem_reverse.mp this
theorem formD_eqv (f : Int × Int) : PyData.eqv (formD f) zeroD = decide (f = (0, 0)) := by
  obtain ⟨a, b⟩ := f
  simp only [formD, zeroD, PyData.eqv, PyData.eqvAll, Bool.and_true]
  rw [Bool.eq_iff_iff]
  simp
theorem forms_flat (fs : List (Int × Int)) : PyData.canLayAll0 (fs.map formD) = true ∧ PyData.depthAll (fs.map formD) ≤ 1 ∧ PyData.hasDictAll (fs.map formD) = false := by
  refine ⟨canAll _ _ fun f _ => by simp [formD, PyData.canLay0, PyData.canLayAll0], depthAll0 1 _ _ fun f _ => by simp [formD, PyData.depth, PyData.depthAll], ?_⟩
  refine dictAll0 _ fun d hd => ?_
  obtain ⟨f, _, rfl⟩ := List.mem_map.mp hd
  simp [formD, PyData.hasDict, PyData.hasDictAll]
theorem eqv_nil (ds : List PyData) : PyData.eqv (.list ds) (.list []) = ds.isEmpty := by
  cases ds with
  | nil => simp [PyData.eqv, PyData.eqvAll]
  | cons x r => simp [PyData.eqv, PyData.eqvAll]
theorem shapedL (fs : List (Int × Int)) : SeqAt.shaped (.list (fs.map formD)) = true := by
  obtain ⟨q1, q2, _⟩ := forms_flat fs
  show (PyData.canLay0 (.list _) && decide (PyData.depth (.list _) ≤ 64)) = true
  rw [Bool.and_eq_true_iff]
  exact ⟨by simp only [PyData.canLay0]; exact q1, decide_eq_true (by simp only [PyData.depth]; omega)⟩
theorem shapedT (fs : List (Int × Int)) : SeqAt.shaped (rowD fs) = true := by
  obtain ⟨q1, q2, _⟩ := forms_flat fs
  show (PyData.canLay0 (.tuple _) && decide (PyData.depth (.tuple _) ≤ 64)) = true
  rw [Bool.and_eq_true_iff]
  exact ⟨by simp only [PyData.canLay0]; exact q1, decide_eq_true (by simp only [PyData.depth]; omega)⟩
theorem shapedF (f : Int × Int) : SeqAt.shaped (formD f) = true := by
  show (PyData.canLay0 (.tuple _) && decide (PyData.depth (.tuple _) ≤ 64)) = true
  rw [Bool.and_eq_true_iff]
  exact ⟨by simp [PyData.canLay0, PyData.canLayAll0], decide_eq_true (by simp [PyData.depth, PyData.depthAll])⟩
theorem noDictF (f : Int × Int) : (formD f).hasDict = false := by simp [formD, PyData.hasDict, PyData.hasDictAll]
theorem noDictT (fs : List (Int × Int)) : (rowD fs).hasDict = false := by
  simp only [rowD, PyData.hasDict]
  exact (forms_flat fs).2.2
def Side (n : Int) (f : Int × Int) : Prop := 0 ≤ f.1 ∧ f.1 ≤ n ∧ 0 ≤ f.2 ∧ f.2 ≤ n
theorem formB_D {f : Int × Int} (h : Side 7 f) : formB (formD f) = true := by
  obtain ⟨h1, h2, h3, h4⟩ := h
  simp [formB, formD, sideB, h1, h2, h3, h4]
theorem rowB_D {fs : List (Int × Int)} (h : ∀ f ∈ fs, Side 7 f) (hl : fs.length ≤ 200) (hc : cutF fs = fs) : rowB (rowD fs) = true := by
  have q1 : formsB (rowD fs) = true := by
    simp only [rowD, formsB]
    rw [List.length_map, decide_eq_true hl, Bool.true_and, List.all_eq_true]
    intro d hd
    obtain ⟨f, hf, rfl⟩ := List.mem_map.mp hd
    exact formB_D (h f hf)
  simp only [rowD, rowB] at q1 ⊢
  rw [q1, Bool.true_and]
  rcases List.eq_nil_or_concat fs with z | ⟨gs, g, z⟩
  · rw [z]
    rfl
  · rw [List.concat_eq_append] at z
    subst z
    have ng : g ≠ (0, 0) := fun e => by
      rw [e, cutF_zero] at hc
      have := (cutF_sub gs).1
      rw [hc, List.length_append, List.length_singleton] at this
      omega
    have el : ((gs ++ [g]).map formD).getLastD .none = formD g := by simp
    rw [el, formD_eqv, decide_eq_false ng]
    simp
def spCut : Sp := fun vs H Q _ => ∃ (d a : Addr) (fs : List (Int × Int)) (xs : List V), vs = [.ref a] ∧ DiceAt H d ∧ a ≠ d ∧ H a = some (.lst xs) ∧ DxAll (hide d H) xs (fs.map formD) ∧ fs.length ≤ 1000 ∧
  ∀ (p : Addr) (H' : Hp), Mv d H H' → Dx (hide d H') (.ref p) (rowD (cutF fs)) → Q (.ref p) H'
def spSomeForm : Sp := fun vs H Q _ => ∃ (d : Addr) (h : Int), vs = [.ref d, .int h] ∧ DiceAt H d ∧ 0 ≤ h ∧ h ≤ 100 ∧
  ∀ (p : Addr) (f : Int × Int) (H' : Hp), Side h f → Mv d H H' → Dx (hide d H') (.ref p) (formD f) → Q (.ref p) H'
def spSomeRow : Sp := fun vs H Q _ => ∃ (d : Addr) (n h : Int), vs = [.ref d, .int n, .int h] ∧ DiceAt H d ∧ 0 ≤ n ∧ n ≤ 300 ∧ 0 ≤ h ∧ h ≤ 100 ∧
  ∀ (p : Addr) (fs : List (Int × Int)) (H' : Hp), (∀ f ∈ fs, Side h f) → (fs.length : Int) ≤ n → cutF fs = fs → Mv d H H' → Dx (hide d H') (.ref p) (rowD fs) → Q (.ref p) H'
theorem log_small {t : Int} (h0 : 0 < t) (h : t ≤ 4000) : t.natAbs.log2 < 9000 := Nat.lt_of_le_of_lt (Nat.log2_le_self _) (by omega)
theorem hide_up {d p : Addr} {H : Hp} {o : HO} (n : p ≠ d) (h : H p = some o) : hide d H p = some o := by rw [hide_ne n]; exact h
section
variable {P : Program} {w : World} {K : PySem.W.Frag} {mg : Str → Option Value} {base : Heap}
theorem c_cut (T : Txt K mg) (D : DefAt K mg "_law_cut" s__law_cut ["_law_forms"]) : CalG P w K mg base 1 "_law_cut" ["_law_forms"] spCut := by
  refine calOk D sc__law_cut (fun xs H Q E h => ?_) (fun f cdv A out s H xs Q E hgd hr h => ?_)
  · obtain ⟨d, a, fs, xs, rfl, _⟩ := h
    rfl
  · obtain ⟨d, a, fs, xs, rfl, hd, na, ha, hx, hl, k⟩ := h
    have nd := sc__law_cut.nd
    refine ⟨_, (pss_cons (ps_set (i := 1) nd rfl (.inl rfl) (pe_callTy call_list_of (by rfl) T.list (by decide +kernel) (pa_cons (pv 0) pa_nil)))
      (pss_cons (ps_while PassesOwn.never (PW.pt (pw_and (pt_cmpR (op_neD hr.units) (pv 1) (pe_lst pa_nil) (nomark _)) (pw_and1 (pt_cmpR (op_eqD hr.units) (pe_ix ix_list (pv 1) (pe_un un_neg pe_int) (fun _ _ => rfl)) (pe_tup (pa_cons pe_int (pa_cons pe_int pa_nil))) (nomark _))))) (pss_one (ps_expr (pe_bm0 PySem.F.plainAttrs_list PySem.F.slot_list_pop PySem.F.type_list_pop mt_pop (pv 1)))))
      (pss_one (ps_ret (pe_callTy call_tuple_of (by rfl) T.tuple (by decide +kernel) (pa_cons (pv 1) pa_nil)))))), ?_⟩
    refine ⟨_, rfl, _, _, rfl, .inl (SqL.of ha), fun l nl => ?_⟩
    have nel := hd.ne nl
    refine ⟨fun m σ H' => ∃ gs zs, m = gs.length ∧ gs.length ≤ 1000 ∧ σ = [some (.ref a), some (.ref l)] ∧ H' l = some (.lst zs) ∧ Mv d H H' ∧ DxAll (hide d H) zs (gs.map formD) ∧ cutF gs = cutF fs, ?_, ?_⟩
    · have m1 : Mv d H (upd H l (.lst xs)) := (Mv.refl hd).new nl
      exact ⟨_, fs, xs, rfl, hl, rfl, upd_same, m1, hx, rfl⟩
    · rintro m σ H1 ⟨gs, zs, rfl, gl, rfl, hL, m1, hz, hc⟩
      refine ⟨_, rfl, (by show 0 ≤ sizeLine; decide), fun p np => ?_⟩
      have s1 : Same H1 (upd H1 p (.lst [])) := same_new np
      have m2 := m1.new (o := .lst []) np
      have hz2 := DxAll.grow m2.same hz
      refine ⟨.list (gs.map formD), .list [], .lst (SqL.of (s1 _ _ hL)) (DxAll.dp (DxAll.grow hide_le hz2) (forms_flat gs).2.2), .lst (SqL.of upd_same) .nil, shapedL gs, (by decide +kernel), ?_⟩
      rcases List.eq_nil_or_concat gs with z | ⟨gs0, g, z⟩
      · subst z
        refine ⟨false, rfl, ?_⟩
        -- return tuple(found)
        cases hz2
        refine ⟨_, rfl, l, _, rfl, .inl ⟨SqL.of (s1 _ _ hL), fun q nq => ?_⟩⟩
        refine k q _ (m2.new nq) ?_
        rw [← hc, cutF_nil]
        exact .tup (hide_up (m2.dice.ne nq) upd_same) .nil
      · rw [List.concat_eq_append] at z
        subst z
        refine ⟨true, congrArg V.bl (by rw [eqv_nil]; simp), ?_⟩
        obtain ⟨zs0, y, rfl⟩ : ∃ zs0 y, zs = zs0 ++ [y] := by
          rcases List.eq_nil_or_concat zs with z | ⟨i, y, z⟩
          · have := hz2.len
            rw [z] at this
            simp at this
          · exact ⟨i, y, by rw [z, List.concat_eq_append]⟩
        have hlen : zs0.length = gs0.length := by
          have := hz2.len
          simpa using this
        have hz0 : DxAll (hide d H) zs0 (gs0.map formD) := by
          have := DxAll.take zs0.length hz
          rw [List.take_left, List.map_append, hlen, ← List.length_map (f := formD), List.take_left] at this
          exact this
        obtain ⟨dy, e1, hy⟩ := hz2.get zs0.length y (by simp)
        have edy : dy = formD g := by
          rw [List.map_append, hlen, ← List.length_map (f := formD)] at e1
          simp at e1
          exact e1.symm
        subst edy
        have hL1 := s1 _ _ hL
        refine ⟨_, rfl, _, rfl, _, _, _, _, rfl, rfl, SqL.of hL1, atI_last zs0 y, (by show 2 ≤ sizeLine; decide), fun p2 np2 => ?_⟩
        have s2 := same_new (o := .tup [.int 0, .int 0]) np2
        have m3 := m2.new (o := .tup [.int 0, .int 0]) np2
        have g3 : Same (hide d (upd H1 p (.lst []))) (hide d (upd (upd H1 p (.lst [])) p2 (.tup [.int 0, .int 0]))) := ((Mv.refl m2.dice).new np2).same
        refine ⟨formD g, zeroD, ((Dx.grow hide_le hy).grow s2).dp (noDictF g), .tup (SqT.of upd_same) (.cons (.int 0) (.cons (.int 0) .nil)), shapedF g, (by decide +kernel), ?_⟩
        by_cases eg : g = (0, 0)
        · refine ⟨true, congrArg V.bl (by rw [formD_eqv, decide_eq_true eg]), ?_⟩
          refine ⟨_, fun _ _ n => n, ?_⟩
          refine ⟨_, rfl, .inl ⟨rfl, _, SqL.of (s2 _ _ hL1)⟩, l, _, y, rfl, rfl, s2 _ _ hL1, (by simp), ?_⟩
          have m4 := m3.set (o := .lst (zs0 ++ [y]).dropLast) nl nel
          refine ⟨gs0.length, (by simp), gs0, zs0, rfl, (by simp at gl; omega), rfl, ?_, m4, hz0, ?_⟩
          · rw [upd_same, List.dropLast_concat]
          · rw [← hc, eg, cutF_zero]
        · refine ⟨false, congrArg V.bl (by rw [formD_eqv, decide_eq_false eg]), ?_⟩
          refine ⟨_, rfl, l, _, rfl, .inl ⟨SqL.of (s2 _ _ hL1), fun q nq => ?_⟩⟩
          refine k q _ (m3.new nq) ?_
          rw [← hc, cutF_last _ eg]
          have g5 : Same (hide d (upd (upd H1 p (.lst [])) p2 (.tup [.int 0, .int 0]))) (hide d (upd (upd (upd H1 p (.lst [])) p2 (.tup [.int 0, .int 0])) q (.tup (zs0 ++ [y])))) := ((Mv.refl m3.dice).new nq).same
          exact .tup (hide_up (m3.dice.ne nq) upd_same) (DxAll.grow g5 (DxAll.grow g3 hz2))
end
/-- at the values xs stand the pairs fs -/
inductive FormsAt (H : Hp) : List V → List (Int × Int) → Prop
  | nil : FormsAt H [] []
  | cons {p : Addr} {f : Int × Int} {xs : List V} {fs : List (Int × Int)} : H p = some (.tup [.int f.1, .int f.2]) → FormsAt H xs fs → FormsAt H (.ref p :: xs) (f :: fs)
theorem FormsAt.keep {H H' : Hp} (s : ∀ p xs, H p = some (.tup xs) → H' p = some (.tup xs)) : ∀ {xs : List V} {fs : List (Int × Int)}, FormsAt H xs fs → FormsAt H' xs fs
  | _, _, .nil => .nil
  | _, _, .cons h r => .cons (s _ _ h) (FormsAt.keep s r)
theorem FormsAt.append {H : Hp} : ∀ {xs ys : List V} {fs gs : List (Int × Int)}, FormsAt H xs fs → FormsAt H ys gs → FormsAt H (xs ++ ys) (fs ++ gs)
  | _, _, _, _, .nil, h => h
  | _, _, _, _, .cons a b, h => .cons a (FormsAt.append b h)
theorem FormsAt.len {H : Hp} : ∀ {xs : List V} {fs : List (Int × Int)}, FormsAt H xs fs → xs.length = fs.length
  | _, _, .nil => rfl
  | _, _, .cons _ b => by rw [List.length_cons, List.length_cons, FormsAt.len b]
theorem FormsAt.get {H : Hp} : ∀ {xs : List V} {fs : List (Int × Int)}, FormsAt H xs fs → ∀ (i : Nat) (x : V), xs[i]? = some x → ∃ p f, x = .ref p ∧ fs[i]? = some f ∧ H p = some (.tup [.int f.1, .int f.2])
  | _, _, .nil, _, _, e => by cases e
  | _, _, .cons a b, 0, x, e => by
    cases e
    exact ⟨_, _, rfl, rfl, a⟩
  | _, _, .cons a b, i + 1, x, e => FormsAt.get b i x e
theorem FormsAt.dx {H : Hp} {d : Addr} (hd : DiceAt H d) : ∀ {xs : List V} {fs : List (Int × Int)}, FormsAt H xs fs → DxAll (hide d H) xs (fs.map formD)
  | _, _, .nil => .nil
  | _, _, .cons a b => .cons (.tup (hide_up (fun e => by
      obtain ⟨l, s, c, q⟩ := hd
      rw [e, q] at a
      cases a) a) (.cons (.int _) (.cons (.int _) .nil))) (FormsAt.dx hd b)
theorem FormsAt.of {H : Hp} : ∀ {xs : List V} (fs : List (Int × Int)), DxAll H xs (fs.map formD) → FormsAt H xs fs
  | xs, [], h => by
    cases h
    exact .nil
  | xs, f :: fs, h => by
    cases h with
    | cons a b =>
      cases a with
      | tup h1 h2 =>
        cases h2 with
        | cons y1 r =>
          cases r with
          | cons y2 r =>
            cases r
            cases y1
            cases y2
            exact .cons h1 (FormsAt.of fs b)
theorem Dx.form {H : Hp} {p : Addr} {f : Int × Int} (h : Dx H (.ref p) (formD f)) : H p = some (.tup [.int f.1, .int f.2]) := by
  cases h with
  | tup h1 h2 =>
    cases h2 with
    | cons y1 r =>
      cases r with
      | cons y2 r =>
        cases r
        cases y1
        cases y2
        exact h1
theorem Mv.tups {d : Addr} {H H' : Hp} (hd : DiceAt H d) (m : Mv d H H') (p : Addr) (xs : List V) (h : H p = some (.tup xs)) : H' p = some (.tup xs) := by
  refine m.get (fun e => ?_) h
  obtain ⟨l, s, c, q⟩ := hd
  rw [e, q] at h
  cases h
theorem tups_put {H : Hp} {l : Addr} {zs : List V} {o : HO} (hl : H l = some (.lst zs)) (p : Addr) (xs : List V) (h : H p = some (.tup xs)) : upd H l o p = some (.tup xs) := by
  rw [upd_ne (fun e => by rw [e, hl] at h; cases h)]
  exact h
theorem hide_le' {d p : Addr} {H : Hp} {o : HO} (h : hide d H p = some o) : H p = some o := hide_le _ _ h
section
variable {P : Program} {w : World} {K : PySem.W.Frag} {mg : Str → Option Value} {base : Heap}
theorem c_some_form (T : Txt K mg) (C__law_roll : CalG P w K mg base 1 "_law_roll" ["_law_dice_here", "_law_total"] spRoll) (D : DefAt K mg "_law_some_form" s__law_some_form ["_law_dice_here", "_law_high"]) :
    CalG P w K mg base 2 "_law_some_form" ["_law_dice_here", "_law_high"] spSomeForm := by
  refine calOk D sc__law_some_form (fun xs H Q E h => ?_) (fun f cdv A out s H xs Q E hgd hr h => ?_)
  · obtain ⟨d, h, rfl, _⟩ := h
    rfl
  · obtain ⟨d, n, rfl, hd, h0, h1, k⟩ := h
    have nd := sc__law_some_form.nd
    refine ⟨_, (pss_one (ps_ret (pe_tup (pa_cons (pe_k C__law_roll hgd hr (by decide) rfl (pa_cons (pv 0) (pa_cons (pe_op op_add (pv 1) pe_int) pa_nil))) (pa_cons (pe_k C__law_roll hgd hr (by decide) rfl (pa_cons (pv 0) (pa_cons (pe_op op_add (pv 1) pe_int) pa_nil))) pa_nil))))), ?_⟩
    have l1 : (n + 1).natAbs.log2 < 9000 := log_small (by omega) (by omega)
    refine ⟨_, rfl, _, rfl, _, _, rfl, rfl, d, _, rfl, hd, (by omega), l1, fun r1 H1 a1 b1 m1 f1 => ?_⟩
    refine ⟨_, rfl, _, rfl, _, _, rfl, rfl, d, _, rfl, m1.dice, (by omega), l1, fun r2 H2 a2 b2 m2 f2 => ?_⟩
    refine ⟨(by show 2 ≤ sizeLine; decide), fun p np => ?_⟩
    exact k p (r1, r2) _ ⟨a1, by omega, a2, by omega⟩ ((m1.trans m2).new np) (.tup (hide_up (m2.dice.ne np) upd_same) (.cons (.int _) (.cons (.int _) .nil)))
theorem c_some_row (T : Txt K mg) (C__law_roll : CalG P w K mg base 1 "_law_roll" ["_law_dice_here", "_law_total"] spRoll) (C__law_some_form : CalG P w K mg base 2 "_law_some_form" ["_law_dice_here", "_law_high"] spSomeForm)
    (C__law_cut : CalG P w K mg base 1 "_law_cut" ["_law_forms"] spCut) (D : DefAt K mg "_law_some_row" s__law_some_row ["_law_dice_here", "_law_levels", "_law_high"]) :
    CalG P w K mg base 3 "_law_some_row" ["_law_dice_here", "_law_levels", "_law_high"] spSomeRow := by
  refine calOk D sc__law_some_row (fun xs H Q E h => ?_) (fun f cdv A out s H xs Q E hgd hr h => ?_)
  · obtain ⟨d, n, h, rfl, _⟩ := h
    rfl
  · obtain ⟨d, n, h, rfl, hd, n0, n1, h0, h1, k⟩ := h
    have nd := sc__law_some_row.nd
    refine ⟨_, (pss_cons (ps_setLc (i := 3) (own := [("_law_turn", 4)]) (g := gName 4) (by rfl) nd rfl rfl (sw_true rfl rfl rfl (by decide +kernel)) (pi_range1 rfl T.range (pa_cons (pe_k C__law_roll hgd hr (by decide) rfl (pa_cons (pv 0) (pa_cons (pe_op op_add (pv 1) pe_int) pa_nil))) pa_nil)) (blkOk_by (own := [("_law_turn", 4)]) (N := N__law_some_row) (sc := defScope s__law_some_row) (by decide +kernel)) (fun _ _ _ _ _ => pg_name (i := 4) nd rfl (.inl rfl)) (fun _ _ _ _ _ => pts_nil) (fun _ _ _ _ _ => pe_k C__law_some_form hgd hr (by decide) rfl (pa_cons (pv 0) (pa_cons (pv 2) pa_nil))))
      (pss_cons (ps_setLc (i := 3) (own := [("_law_form", 5)]) (g := gName 5) (by rfl) nd rfl rfl (sw_true rfl rfl rfl (by decide +kernel)) (pi_list (pv 3)) (blkOk_by (own := [("_law_form", 5)]) (N := N__law_some_row) (sc := defScope s__law_some_row) (by decide +kernel)) (fun _ _ _ _ _ => pg_name (i := 5) nd rfl (.inl rfl)) (fun _ _ _ _ _ => pts_nil) (fun _ _ _ _ _ => pe_ifExp (pt_cmpR op_gt (pe_k C__law_roll hgd hr (by decide) rfl (pa_cons (pv 0) (pa_cons pe_int pa_nil))) pe_int (nomark _)) (pv 5) (pe_tup (pa_cons pe_int (pa_cons pe_int pa_nil)))))
      (pss_one (ps_ret (pe_k C__law_cut hgd hr (by decide) rfl (pa_cons (pv 3) pa_nil)))))), ?_⟩
    have l1 : (n + 1).natAbs.log2 < 9000 := log_small (by omega) (by omega)
    refine a_set (fun v H' => ∃ l xs fs, v = .ref l ∧ l ≠ d ∧ Mv d H H' ∧ H' l = some (.lst xs) ∧ FormsAt H' xs fs ∧ (fs.length : Int) ≤ n ∧ ∀ f ∈ fs, Side h f) (fun Q' kQ => ?_) ?_
    · refine ⟨_, rfl, _, rfl, _, _, rfl, rfl, d, _, rfl, hd, (by omega), l1, fun r1 H1 a1 b1 m1 f1 => ?_⟩
      refine ⟨_, rfl, (by omega), (by omega), fun Dl nD => ?_⟩
      have neD := m1.dice.ne nD
      refine lc_range (fun i H' => ∃ xs fs, Mv d H H' ∧ H' Dl = some (.lst xs) ∧ FormsAt H' xs fs ∧ fs.length = i ∧ ∀ f ∈ fs, Side h f) ?_ ?_ ?_
      · exact ⟨[], [], m1.new nD, upd_same, .nil, rfl, fun _ z => nomatch z⟩
      · rintro i H2 hi ⟨xs, fs, m2, hD, hF, hl, hs⟩
        refine ⟨rfl, ?_⟩
        refine ⟨_, rfl, _, rfl, d, h, rfl, m2.dice, h0, h1, fun p f H3 sf m3 hp => ?_⟩
        have hD3 := m3.get neD hD
        have hF3 := hF.keep (m3.tups m2.dice)
        refine ⟨xs, hD3, ?_, xs ++ [.ref p], fs ++ [f], (m2.trans m3).set (m1.free nD) neD, upd_same, ?_, ?_, ?_⟩
        · rw [hF3.len]
          exact small1000 (by omega)
        · exact (hF3.append (.cons (hide_le' hp.form) .nil)).keep (tups_put hD3)
        · rw [List.length_append, hl]
          rfl
        · intro g hg
          rcases List.mem_append.mp hg with q | q
          · exact hs g q
          · rw [List.mem_singleton.mp q]
            exact sf
      · rintro H2 ⟨xs, fs, m2, hD, hF, hl, hs⟩
        exact kQ _ _ ⟨Dl, xs, fs, rfl, neD, m2, hD, hF, by omega, hs⟩
    rintro _ H1 ⟨l, xs, fs, rfl, nel, m1, hL, hF, hn, hs⟩
    refine a_set (fun v H' => ∃ l xs fs, v = .ref l ∧ l ≠ d ∧ Mv d H H' ∧ H' l = some (.lst xs) ∧ FormsAt H' xs fs ∧ (fs.length : Int) ≤ n ∧ ∀ f ∈ fs, Side h f) (fun Q' kQ => ?_) ?_
    · refine ⟨_, rfl, l, rfl, ⟨_, SqL.of hL⟩, fun Dl nD => ?_⟩
      have neD := m1.dice.ne nD
      have neL : l ≠ Dl := ne_of_none hL nD
      have l5 : Nat.log2 5 < 9000 := by decide +kernel
      refine lc_list (K := K) (a := l) (xs := xs) (fun i H' => ∃ ys gs, Mv d H H' ∧ H' l = some (.lst xs) ∧ FormsAt H' xs fs ∧ H' Dl = some (.lst ys) ∧ FormsAt H' ys gs ∧ gs.length = i ∧ ∀ f ∈ gs, Side h f) ?_ ?_ ?_ ?_
      · refine ⟨[], [], m1.new nD, by rw [upd_ne neL]; exact hL, hF.keep fun p zs q => same_new nD _ _ q, upd_same, .nil, rfl, fun _ z => nomatch z⟩
      · rintro i H' _ ⟨ys, gs, _, hL', _⟩
        exact SqL.of hL'
      · rintro i x H2 hi ⟨ys, gs, m2, hL2, hF2, hD, hG, hl, hs2⟩
        obtain ⟨p, g, rfl, hg, hp⟩ := hF2.get i x hi
        have sg : Side h g := hs g (List.mem_of_getElem? hg)
        have lys : ys.length < sizeLine := by
          rw [hG.len, hl]
          have : i < xs.length := (List.getElem?_eq_some_iff.mp hi).1
          rw [hF.len] at this
          exact small1000 (by omega)
        refine ⟨rfl, ?_⟩
        refine ⟨_, rfl, d, 5, rfl, m2.dice, (by decide), l5, fun r3 H3 a3 b3 m3 f3 => ?_⟩
        have hD3 := m3.get neD hD
        have hL3 := m3.get nel hL2
        have hF3 := hF2.keep (m3.tups m2.dice)
        have hG3 := hG.keep (m3.tups m2.dice)
        refine ⟨_, _, rfl, rfl, _, rfl, ite2 (fun q => ?_) (fun q => ?_)⟩
        · have hp3 := m3.tups m2.dice _ _ hp
          refine ⟨_, rfl, ys, hD3, lys, ys ++ [.ref p], gs ++ [g], (m2.trans m3).set (m1.free nD) neD, by rw [upd_ne neL]; exact hL3, hF3.keep (tups_put hD3), upd_same, ?_, ?_, ?_⟩
          · exact (hG3.append (.cons hp3 .nil)).keep (tups_put hD3)
          · rw [List.length_append, hl]
            rfl
          · intro g' hg'
            rcases List.mem_append.mp hg' with z | z
            · exact hs2 g' z
            · rw [List.mem_singleton.mp z]
              exact sg
        · refine ⟨(by show 2 ≤ sizeLine; decide), fun p2 np2 => ?_⟩
          have s4 := same_new (o := .tup [.int 0, .int 0]) np2
          have hD4 := s4 _ _ hD3
          refine ⟨ys, hD4, lys, ys ++ [.ref p2], gs ++ [(0, 0)], ((m2.trans m3).new np2).set (m1.free nD) neD, by rw [upd_ne neL]; exact s4 _ _ hL3, (hF3.keep fun p zs q => s4 _ _ q).keep (tups_put hD4), upd_same, ?_, ?_, ?_⟩
          · exact ((hG3.keep fun p zs q => s4 _ _ q).append (.cons (f := (0, 0)) upd_same .nil)).keep (tups_put hD4)
          · rw [List.length_append, hl]
            rfl
          · intro g' hg'
            rcases List.mem_append.mp hg' with z | z
            · exact hs2 g' z
            · rw [List.mem_singleton.mp z]
              exact ⟨Int.le_refl _, h0, Int.le_refl _, h0⟩
      · rintro H2 ⟨ys, gs, m2, hL2, hF2, hD, hG, hl, hs2⟩
        exact kQ _ _ ⟨Dl, ys, gs, rfl, neD, m2, hD, hG, by rw [hl, hF.len]; exact hn, hs2⟩
    rintro _ H2 ⟨l2, ys, gs, rfl, ne2, m2, hL2, hG, hn2, hs2⟩
    refine ⟨_, rfl, d, l2, gs, ys, rfl, m2.dice, ne2, hL2, hG.dx m2.dice, (by omega), fun p H3 m3 hp => ?_⟩
    have sub := cutF_sub gs
    exact k p (cutF gs) H3 (fun f hf => hs2 f (sub.2 f hf)) (by have := sub.1; omega) (cutF_cut gs) (m2.trans m3) hp
end


/-! ## check_arity, check_row, sides_of, length_of, with right arguments -/
def spCheckArity : Sp := fun vs H Q _ => ∃ k : Int, vs = [.int k] ∧ (k = 2 ∨ k = 3) ∧ ∀ H', Same H H' → Q .non H'
def spCheckRow : Sp := fun vs H Q _ => ∃ (x : V) (d : PyData), vs = [x] ∧ Dx H x d ∧ rowB d = true ∧ ∀ H', Same H H' → Q .non H'
def sideL (k : Int) (fs : List (Int × Int)) : Int := fs.foldr (fun f a => a * k + f.1) 0
def sideR (k : Int) (fs : List (Int × Int)) : Int := fs.foldr (fun f a => a * k + f.2) 0
def spSides : Sp := fun vs H Q _ => ∃ (k : Int) (x : V) (fs : List (Int × Int)), vs = [.int k, x] ∧ (k = 2 ∨ k = 3) ∧ Dx H x (rowD fs) ∧ rowB (rowD fs) = true ∧
  ∀ (p : Addr) (H' : Hp), H p = none → Same H H' → H' p = some (.tup [.int (sideL k fs), .int (sideR k fs)]) → Q (.ref p) H'
def spLength : Sp := fun vs H Q _ => ∃ (k : Int) (x : V) (fs : List (Int × Int)), vs = [.int k, x] ∧ (k = 2 ∨ k = 3) ∧ Dx H x (rowD fs) ∧ rowB (rowD fs) = true ∧
  ∀ H' : Hp, Same H H' → Q (.int (sideL k fs + sideR k fs)) H'
theorem FormsAt.reverse {H : Hp} : ∀ {xs : List V} {fs : List (Int × Int)}, FormsAt H xs fs → FormsAt H xs.reverse fs.reverse
  | _, _, .nil => .nil
  | _, _, .cons a b => by
    rw [List.reverse_cons, List.reverse_cons]
    exact (FormsAt.reverse b).append (.cons a .nil)
theorem Dx.rowOf {H : Hp} {x : V} {fs : List (Int × Int)} (h : Dx H x (rowD fs)) : ∃ a xs, x = .ref a ∧ H a = some (.tup xs) ∧ FormsAt H xs fs := by
  obtain ⟨a, xs, e, h1, h2⟩ := h.tupOf
  exact ⟨a, xs, e, h1, FormsAt.of fs h2⟩
section
variable {P : Program} {w : World} {K : PySem.W.Frag} {mg : Str → Option Value} {base : Heap}
theorem c_check_arity (T : Txt K mg) (C_is_within : CalG P w K mg base 2 "is_within" ["value", "least", "greatest"] spWithin) (D : DefAt K mg "check_arity" s_check_arity ["arity"]) : CalG P w K mg base 3 "check_arity" ["arity"] spCheckArity := by
  refine calOk D sc_check_arity (fun xs H Q E h => ?_) (fun f cdv A out s H xs Q E hgd hr h => ?_)
  · obtain ⟨k, rfl, _⟩ := h
    rfl
  · obtain ⟨n, rfl, hn, k⟩ := h
    have nd := sc_check_arity.nd
    refine ⟨_, (pss_one (ps_if (pt_not (pt_val (pe_k C_is_within hgd hr (by decide) rfl (pa_cons (pv 0) (pa_cons pe_int (pa_cons pe_int pa_nil)))))) (pss_one (ps_never)) pss_nil)), ?_⟩
    have sm : within (.int n) 2 3 = true := by
      show (smallB n && (decide (2 ≤ n) && decide (n ≤ 3))) = true
      unfold smallB BIG
      rw [decide_eq_true (by omega), decide_eq_true (by omega), decide_eq_true (by omega), decide_eq_true (by omega)]
      rfl
    refine a_if1 (fun b H' => b = false ∧ Same H H') (fun Q' kQ => ?_) (fun H' h => nomatch h.1) (fun H' h => k H' h.2)
    exact ⟨_, rfl, _, _, 2, 3, rfl, .int n, fun H1 s1 => ⟨true, congrArg V.bl sm, kQ _ _ ⟨rfl, s1⟩⟩⟩
theorem c_check_row (T : Txt K mg) (C_is_row : CalG P w K mg base 6 "is_row" ["value"] (spJ rowB)) (D : DefAt K mg "check_row" s_check_row ["row"]) : CalG P w K mg base 7 "check_row" ["row"] spCheckRow := by
  refine calOk D sc_check_row (fun xs H Q E h => ?_) (fun f cdv A out s H xs Q E hgd hr h => ?_)
  · obtain ⟨x, d, rfl, _⟩ := h
    rfl
  · obtain ⟨x, d, rfl, hx, hb, k⟩ := h
    have nd := sc_check_row.nd
    refine ⟨_, (pss_one (ps_if (pt_not (pt_val (pe_k C_is_row hgd hr (by decide) rfl (pa_cons (pv 0) pa_nil)))) (pss_one (ps_never)) pss_nil)), ?_⟩
    refine a_if1 (fun b H' => b = false ∧ Same H H') (fun Q' kQ => ?_) (fun H' h => nomatch h.1) (fun H' h => k H' h.2)
    exact ⟨_, rfl, _, _, rfl, hx, fun H1 s1 => ⟨true, congrArg V.bl hb, kQ _ _ ⟨rfl, s1⟩⟩⟩
def spSums : Sp := fun vs H Q _ => ∃ (k : Int) (x : V) (fs : List (Int × Int)), vs = [.int k, x] ∧ (k = 2 ∨ k = 3) ∧ Dx H x (rowD fs) ∧
  ∀ (p : Addr) (H' : Hp), H p = none → Same H H' → H' p = some (.tup [.int (sideL k fs), .int (sideR k fs)]) → Q (.ref p) H'
theorem c_sums (T : Txt K mg) (D : DefAt K mg "sums_of" s_sums_of ["arity", "row"]) : CalG P w K mg base 1 "sums_of" ["arity", "row"] spSums := by
  refine calOk D sc_sums_of (fun xs H Q E h => ?_) (fun f cdv A out s H xs Q E hgd hr h => ?_)
  · obtain ⟨n, x, fs, rfl, _⟩ := h
    rfl
  · obtain ⟨n, x, fs, rfl, hn, hx, k⟩ := h
    have nd := sc_sums_of.nd
    refine ⟨_, (pss_cons (ps_set (i := 2) nd rfl (.inl rfl) pe_int)
      (pss_cons (ps_set (i := 3) nd rfl (.inl rfl) pe_int)
      (pss_cons (ps_for PassesOwn.never rfl (pi_tup (pe_revT (pv 1))) (pg_tup (by rfl) (pgs_cons (pg_name (i := 4) nd rfl (.inl rfl)) (pgs_cons (pg_name (i := 5) nd rfl (.inl rfl)) pgs_nil))) (pss_cons (ps_set (i := 2) nd rfl (.inl rfl) (pe_op op_add (pe_op op_mul (pv 2) (pv 0)) (pv 4)))
        (pss_one (ps_set (i := 3) nd rfl (.inl rfl) (pe_op op_add (pe_op op_mul (pv 3) (pv 0)) (pv 5))))))
      (pss_one (ps_ret (pe_tup (pa_cons (pv 2) (pa_cons (pv 3) pa_nil)))))))), ?_⟩
    have s12 := Same.refl H
    obtain ⟨a, xs, rfl, ha, hF⟩ := (hx.grow s12).rowOf
    refine ⟨_, rfl, a, xs, rfl, SqT.of ha, fun q nq => ?_⟩
    have s3 := same_new (o := .tup xs.reverse) nq
    have hR := hF.reverse
    refine ⟨q, rfl, ⟨_, SqT.of upd_same⟩, ?_⟩
    refine for_tup (K := K) (a := q) (xs := xs.reverse) (fun i σ H' => ∃ v4 v5, σ = [some (.int n), some (.ref a), some (.int ((fs.reverse.take i).foldl (fun a f => a * n + f.1) 0)), some (.int ((fs.reverse.take i).foldl (fun a f => a * n + f.2) 0)), v4, v5] ∧
      Same H H' ∧ H' q = some (.tup xs.reverse) ∧ FormsAt H' xs.reverse fs.reverse) ?_ ?_ ?_ ?_
    · exact ⟨_, _, rfl, s12.trans s3, upd_same, hR.keep fun p zs z => s3 _ _ z⟩
    · rintro i σ H' _ ⟨_, _, _, _, hq, _⟩
      exact SqT.of hq
    · rintro i y σ H' hi ⟨v4, v5, rfl, s4, hq, hF4⟩
      obtain ⟨p, f, rfl, hf, hp⟩ := hF4.get i y hi
      refine ⟨p, [.int f.1, .int f.2], rfl, SqT.of hp, rfl, .int f.1, [.int f.2], rfl, .int f.2, [], rfl, rfl, ?_⟩
      have tk : fs.reverse.take (i + 1) = fs.reverse.take i ++ [f] := by rw [List.take_add_one, hf]; rfl
      have big : CMul ((fs.reverse.take i).foldl (fun a f => a * n + f.1) 0) n := .inr ⟨by omega, by omega⟩
      have big2 : CMul ((fs.reverse.take i).foldl (fun a f => a * n + f.2) 0) n := .inr ⟨by omega, by omega⟩
      refine ⟨_, rfl, _, rfl, _, _, rfl, rfl, big, _, rfl, _, _, rfl, rfl, ?_⟩
      refine ⟨_, rfl, _, rfl, _, _, rfl, rfl, big2, _, rfl, _, _, rfl, rfl, ?_⟩
      refine ⟨some (.int f.1), some (.int f.2), ?_, s4, hq, hF4⟩
      rw [tk, List.foldl_append, List.foldl_append]
      rfl
    · rintro σ H' ⟨v4, v5, rfl, s4, hq, hF4⟩
      refine ⟨_, rfl, _, rfl, (by show 2 ≤ sizeLine; decide), fun p np => ?_⟩
      refine k p _ (s4.free np) (s4.trans (same_new np)) ?_
      rw [upd_same]
      have full : fs.reverse.take xs.reverse.length = fs.reverse := by
        rw [hF4.len]
        exact List.take_length
      rw [full, List.foldl_reverse, List.foldl_reverse]
      rfl
theorem c_sides (T : Txt K mg) (C_check_arity : CalG P w K mg base 3 "check_arity" ["arity"] spCheckArity) (C_check_row : CalG P w K mg base 7 "check_row" ["row"] spCheckRow) (C_sums_of : CalG P w K mg base 1 "sums_of" ["arity", "row"] spSums) (D : DefAt K mg "sides_of" s_sides_of ["arity", "row"]) :
    CalG P w K mg base 8 "sides_of" ["arity", "row"] spSides := by
  refine calOk D sc_sides_of (fun xs H Q E h => ?_) (fun f cdv A out s H xs Q E hgd hr h => ?_)
  · obtain ⟨n, x, fs, rfl, _⟩ := h
    rfl
  · obtain ⟨n, x, fs, rfl, hn, hx, hb, k⟩ := h
    have nd := sc_sides_of.nd
    refine ⟨_, (pss_cons (ps_expr (pe_k C_check_arity hgd hr (by decide) rfl (pa_cons (pv 0) pa_nil)))
      (pss_cons (ps_expr (pe_k C_check_row hgd hr (by decide) rfl (pa_cons (pv 1) pa_nil)))
      (pss_one (ps_ret (pe_k C_sums_of hgd hr (by decide) rfl (pa_cons (pv 0) (pa_cons (pv 1) pa_nil))))))), ?_⟩
    refine ⟨_, rfl, n, rfl, hn, fun H1 s1 => ?_⟩
    refine ⟨_, rfl, x, _, rfl, hx.grow s1, hb, fun H2 s2 => ?_⟩
    have s12 := s1.trans s2
    exact ⟨_, rfl, _, rfl, n, x, fs, rfl, hn, hx.grow s12, fun p H3 np s3 hp => k p _ (s12.free np) (s12.trans s3) hp⟩
theorem c_length (T : Txt K mg) (C_sides_of : CalG P w K mg base 8 "sides_of" ["arity", "row"] spSides) (D : DefAt K mg "length_of" s_length_of ["arity", "row"]) :
    CalG P w K mg base 9 "length_of" ["arity", "row"] spLength := by
  refine calOk D sc_length_of (fun xs H Q E h => ?_) (fun f cdv A out s H xs Q E hgd hr h => ?_)
  · obtain ⟨n, x, fs, rfl, _⟩ := h
    rfl
  · obtain ⟨n, x, fs, rfl, hn, hx, hb, k⟩ := h
    have nd := sc_length_of.nd
    refine ⟨_, (pss_cons (ps_asg (pe_k C_sides_of hgd hr (by decide) rfl (pa_cons (pv 0) (pa_cons (pv 1) pa_nil))) (pg_tup (by rfl) (pgs_cons (pg_name (i := 2) nd rfl (.inl rfl)) (pgs_cons (pg_name (i := 3) nd rfl (.inl rfl)) pgs_nil))))
      (pss_one (ps_ret (pe_op op_add (pv 2) (pv 3))))), ?_⟩
    refine ⟨_, rfl, _, rfl, n, x, fs, rfl, hn, hx, hb, fun p H1 np s1 hp => ?_⟩
    refine ⟨p, [.int (sideL n fs), .int (sideR n fs)], rfl, SqT.of hp, rfl, .int (sideL n fs), [.int (sideR n fs)], rfl, .int (sideR n fs), [], rfl, rfl, ?_⟩
    refine ⟨_, rfl, _, rfl, _, _, rfl, rfl, ?_⟩
    exact k H1 s1
end
/-! ## rows as values at places -/
theorem go_nm {t : TS} {D : Ends} {i : Nat} {v : V} {σ : L2.St} {H : Hp} {r : VK} {b c : L2.St → Hp → Prop} (h : t D (σ.set i (some v)) H) : gName i v σ H (Ends.nx ⟨t D, r, b, c⟩) := h

theorem vcut_take (xs : List V) (n : Nat) (h : n ≤ xs.length) : cutV xs none (some (n : Int)) = xs.take n := by
  unfold cutV HT.sIx
  show (xs.drop 0).take _ = _
  rw [List.drop_zero]
  congr 1
  simp only [Int.natCast_nonneg]
  split <;> omega
theorem cut_take (ds : List PyData) (n : Nat) (h : n ≤ ds.length) : cutD ds none (some (n : Int)) = ds.take n := by
  unfold cutD
  rw [HT.sIx_none, HT.sIx_nat, Nat.min_eq_left h, List.drop_zero, Nat.sub_zero]
theorem cut_drop (ds : List PyData) (n : Nat) (h : n ≤ ds.length) : cutD ds (some (n : Int)) none = ds.drop n := by
  unfold cutD
  rw [HT.sIx_none, HT.sIx_nat, Nat.min_eq_left h]
  exact List.take_of_length_le (by rw [List.length_drop]; omega)
theorem FormsAt.dx0 {H : Hp} : ∀ {xs : List V} {fs : List (Int × Int)}, FormsAt H xs fs → DxAll H xs (fs.map formD)
  | _, _, .nil => .nil
  | _, _, .cons a b => .cons (.tup a (.cons (.int _) (.cons (.int _) .nil))) (FormsAt.dx0 b)
def RowAt (H : Hp) (v : V) (fs : List (Int × Int)) : Prop := ∃ a xs, v = .ref a ∧ H a = some (.tup xs) ∧ FormsAt H xs fs
theorem RowAt.keep {H H' : Hp} {v : V} {fs : List (Int × Int)} (s : ∀ p xs, H p = some (.tup xs) → H' p = some (.tup xs)) (h : RowAt H v fs) : RowAt H' v fs := by
  obtain ⟨a, xs, e, h1, h2⟩ := h
  exact ⟨a, xs, e, s _ _ h1, h2.keep s⟩
theorem RowAt.grow {H H' : Hp} {v : V} {fs : List (Int × Int)} (h : RowAt H v fs) (s : Same H H') : RowAt H' v fs := h.keep fun p xs z => s _ _ z
theorem RowAt.mv {d : Addr} {H H' : Hp} {v : V} {fs : List (Int × Int)} (h : RowAt H v fs) (hd : DiceAt H d) (m : Mv d H H') : RowAt H' v fs := h.keep (m.tups hd)
theorem RowAt.dx0 {H : Hp} {v : V} {fs : List (Int × Int)} (h : RowAt H v fs) : Dx H v (rowD fs) := by
  obtain ⟨a, xs, rfl, h1, h2⟩ := h
  exact .tup h1 h2.dx0
theorem DiceAt.neT {H : Hp} {d p : Addr} {xs : List V} (hd : DiceAt H d) (h : H p = some (.tup xs)) : p ≠ d := fun e => by
  obtain ⟨l, s, c, q⟩ := hd
  rw [e, q] at h
  cases h
theorem RowAt.dx {d : Addr} {H : Hp} {v : V} {fs : List (Int × Int)} (h : RowAt H v fs) (hd : DiceAt H d) : Dx (hide d H) v (rowD fs) := by
  obtain ⟨a, xs, rfl, h1, h2⟩ := h
  exact .tup (hide_up (hd.neT h1) h1) (h2.dx hd)
theorem RowAt.of {d : Addr} {H : Hp} {v : V} {fs : List (Int × Int)} (h : Dx (hide d H) v (rowD fs)) : RowAt H v fs := h.seen.rowOf
theorem formsB_of {fs : List (Int × Int)} (h : ∀ f ∈ fs, Side 7 f) (hl : fs.length ≤ 200) : formsB (rowD fs) = true := by
  simp only [rowD, formsB]
  rw [List.length_map, decide_eq_true hl, Bool.true_and, List.all_eq_true]
  intro d hd
  obtain ⟨f, hf, rfl⟩ := List.mem_map.mp hd
  exact formB_D (h f hf)
theorem FormsAt.take {H : Hp} : ∀ {xs : List V} {fs : List (Int × Int)} (n : Nat), FormsAt H xs fs → FormsAt H (xs.take n) (fs.take n)
  | _, _, 0, _ => .nil
  | _, _, _ + 1, .nil => .nil
  | _, _, n + 1, .cons a b => .cons a (FormsAt.take n b)
theorem take_one {α : Type} {fs : List α} {i : Nat} {f : α} (h : fs[i]? = some f) : fs.take (i + 1) = fs.take i ++ [f] := by rw [List.take_add_one, h]; rfl
/-! ## sums over rows -/
theorem sideL_snoc (k : Int) (f : Int × Int) : ∀ xs : List (Int × Int), sideL k (xs ++ [f]) = sideL k xs + k ^ xs.length * f.1
  | [] => by simp [sideL]
  | x :: r => by
    have ih := sideL_snoc k f r
    simp only [sideL, List.cons_append, List.foldr_cons, List.length_cons] at ih ⊢
    rw [ih, Int.add_mul, Int.pow_succ, Int.mul_assoc, Int.mul_comm f.1 k, ← Int.mul_assoc]
    omega
theorem sideR_snoc (k : Int) (f : Int × Int) : ∀ xs : List (Int × Int), sideR k (xs ++ [f]) = sideR k xs + k ^ xs.length * f.2
  | [] => by simp [sideR]
  | x :: r => by
    have ih := sideR_snoc k f r
    simp only [sideR, List.cons_append, List.foldr_cons, List.length_cons] at ih ⊢
    rw [ih, Int.add_mul, Int.pow_succ, Int.mul_assoc, Int.mul_comm f.2 k, ← Int.mul_assoc]
    omega
theorem side_bound {k : Int} (hk : k = 2 ∨ k = 3) : ∀ {fs : List (Int × Int)}, (∀ f ∈ fs, Side 7 f) → 0 ≤ sideL k fs ∧ sideL k fs + 7 ≤ 7 * 4 ^ fs.length ∧ 0 ≤ sideR k fs ∧ sideR k fs + 7 ≤ 7 * 4 ^ fs.length
  | [], _ => by simp [sideL, sideR]
  | f :: r, h => by
    obtain ⟨a1, a2, a3, a4⟩ := side_bound hk (fs := r) fun g hg => h g (List.mem_cons_of_mem _ hg)
    obtain ⟨b1, b2, b3, b4⟩ := h f List.mem_cons_self
    simp only [sideL, sideR, List.foldr_cons, List.length_cons] at a1 a2 a3 a4 ⊢
    have e : (4 : Int) ^ (r.length + 1) = 4 ^ r.length * 4 := Int.pow_succ ..
    rw [e]
    rcases hk with rfl | rfl <;> omega
theorem side3 {fs : List (Int × Int)} (h : ∀ f ∈ fs, Side 3 f) : ∀ f ∈ fs, Side 7 f := fun f hf => by
  obtain ⟨a, b, c, d⟩ := h f hf
  exact ⟨a, by omega, c, by omega⟩
theorem last_ne {i : List (Int × Int)} {y : Int × Int} (h : cutF (i ++ [y]) = i ++ [y]) : y ≠ (0, 0) := fun e => by
  rw [e, cutF_zero] at h
  have := (cutF_sub i).1
  rw [h, List.length_append, List.length_singleton] at this
  omega
/-! ## numbers of levels -/
def gsum (c : Int) : Nat → Int
  | 0 => 0
  | n + 1 => gsum c n + c ^ n
theorem gsum_succ (c : Int) (n : Nat) : gsum c (n + 1) = gsum c n + c ^ n := rfl
theorem pow_pos' {c : Int} (hc : c = 2 ∨ c = 3) (n : Nat) : 1 ≤ c ^ n := by
  have : 0 < c ^ n := Int.pow_pos (by omega)
  omega
theorem gsum_nn {c : Int} (hc : c = 2 ∨ c = 3) : ∀ n, 0 ≤ gsum c n
  | 0 => Int.le_refl _
  | n + 1 => by
    have := gsum_nn hc n
    have := pow_pos' hc n
    rw [gsum_succ]
    omega
theorem pow_gsum {c : Int} (hc : c = 2 ∨ c = 3) : ∀ n, c ^ n ≤ 2 * gsum c n + 1
  | 0 => by simp [gsum]
  | n + 1 => by
    have h1 := pow_gsum hc n
    have h2 := pow_pos' hc n
    rw [gsum_succ, Int.pow_succ]
    rcases hc with rfl | rfl <;> omega
theorem gsum_mono {c : Int} (hc : c = 2 ∨ c = 3) {m : Nat} : ∀ {n : Nat}, m ≤ n → gsum c m ≤ gsum c n
  | 0, h => by
    rw [Nat.le_zero.mp h]
    exact Int.le_refl _
  | n + 1, h => by
    by_cases e : m = n + 1
    · rw [e]
      exact Int.le_refl _
    · have h1 := gsum_mono hc (m := m) (n := n) (by omega)
      have h2 := pow_pos' hc n
      rw [gsum_succ]
      omega
theorem pow_mono {c : Int} (hc : c = 2 ∨ c = 3) {m : Nat} : ∀ {n : Nat}, m ≤ n → c ^ m ≤ c ^ n
  | 0, h => by
    rw [Nat.le_zero.mp h]
    exact Int.le_refl _
  | n + 1, h => by
    by_cases e : m = n + 1
    · rw [e]
      exact Int.le_refl _
    · have h1 := pow_mono hc (m := m) (n := n) (by omega)
      have h2 := pow_pos' hc n
      rw [Int.pow_succ]
      rcases hc with rfl | rfl <;> omega
theorem pow200 {c : Int} (hc : c = 2 ∨ c = 3) : BIG ≤ c ^ 200 := by
  rcases hc with rfl | rfl <;> decide +kernel
theorem gsum200 {c : Int} (hc : c = 2 ∨ c = 3) : BIG ≤ 14 * gsum c 200 := by
  have h1 := pow200 hc
  have h2 := pow_gsum hc 200
  have h3 : (3 : Int) ≤ BIG := by decide
  omega
structure IsLeast (c N : Int) (n : Nat) : Prop where
  below : ∀ j : Nat, j < n → 14 * gsum c j < N
  fits : N ≤ 14 * gsum c n
structure IsMost (c N : Int) (n : Nat) : Prop where
  upto : ∀ j : Nat, j < n → c ^ j ≤ N
  over : N < c ^ n
theorem IsLeast.le {c N : Int} (hc : c = 2 ∨ c = 3) (hN : N < BIG) {n : Nat} (h : IsLeast c N n) : n ≤ 200 := by
  rcases Nat.lt_or_ge 200 n with q | q
  · have := h.below 200 q
    have := gsum200 hc
    omega
  · exact q
theorem IsMost.le {c N : Int} (hc : c = 2 ∨ c = 3) (hN : N < BIG) {n : Nat} (h : IsMost c N n) : n ≤ 200 := by
  rcases Nat.lt_or_ge 200 n with q | q
  · have := h.upto 200 q
    have := pow200 hc
    omega
  · exact q
theorem least_most {c N : Int} (hc : c = 2 ∨ c = 3) {L M : Nat} (hL : IsLeast c N L) (hM : IsMost c N M) : L ≤ M := by
  rcases Nat.lt_or_ge M L with q | q
  · have h1 := hL.below M q
    have h2 := hM.over
    have h3 := pow_gsum hc M
    have h4 := gsum_nn hc M
    omega
  · exact q
/-- a row of n levels can have the length N -/
def Good (c N : Int) (n : Nat) : Prop := (n = 0 ∧ N = 0) ∨ (1 ≤ n ∧ c ^ (n - 1) ≤ N ∧ N ≤ 14 * gsum c n)
def Bad (c N : Int) (n : Nat) : Prop := (1 ≤ n ∧ N < c ^ (n - 1)) ∨ 14 * gsum c n < N
theorem good_mid {c N : Int} (hc : c = 2 ∨ c = 3) (h0 : 0 ≤ N) {L M n : Nat} (hL : IsLeast c N L) (hM : IsMost c N M) (h1 : L ≤ n) (h2 : n ≤ M) : Good c N n := by
  have h3 := gsum_mono hc h1
  have h4 := hL.fits
  match n, h1, h2, h3 with
  | 0, h1, h2, h3 =>
    have e : gsum c 0 = 0 := rfl
    exact .inl ⟨rfl, by omega⟩
  | n + 1, h1, h2, h3 => exact .inr ⟨by omega, hM.upto n (by omega), by omega⟩
theorem bad_above {c N : Int} {M : Nat} (hM : IsMost c N M) : Bad c N (M + 1) := .inl ⟨by omega, hM.over⟩
theorem bad_below {c N : Int} {L : Nat} (hL : IsLeast c N L) (h : L ≠ 0) : Bad c N (L - 1) := .inr (hL.below _ (by omega))
theorem row_sum {c : Int} (hc : c = 2 ∨ c = 3) : ∀ {fs : List (Int × Int)}, (∀ f ∈ fs, Side 7 f) → sideL c fs + sideR c fs ≤ 14 * gsum c fs.length
  | fs, h => by
    rcases List.eq_nil_or_concat fs with e | ⟨i, y, e⟩
    · rw [e]
      exact Int.le_refl _
    · rw [List.concat_eq_append] at e
      subst e
      have ih := row_sum hc (fs := i) fun f hf => h f (List.mem_append_left _ hf)
      obtain ⟨a1, a2, a3, a4⟩ := h y (by simp)
      rw [sideL_snoc, sideR_snoc, List.length_append, List.length_singleton, gsum_succ]
      have p := pow_pos' hc i.length
      have q1 : c ^ i.length * y.1 ≤ c ^ i.length * 7 := Int.mul_le_mul_of_nonneg_left a2 (by omega)
      have q2 : c ^ i.length * y.2 ≤ c ^ i.length * 7 := Int.mul_le_mul_of_nonneg_left a4 (by omega)
      omega
  termination_by fs => fs.length
  decreasing_by simp_all
theorem row_least {c : Int} (hc : c = 2 ∨ c = 3) {fs : List (Int × Int)} (h : ∀ f ∈ fs, Side 7 f) (hcut : cutF fs = fs) (hn : fs.length ≠ 0) : c ^ (fs.length - 1) ≤ sideL c fs + sideR c fs := by
  rcases List.eq_nil_or_concat fs with e | ⟨i, y, e⟩
  · rw [e] at hn
    exact absurd rfl hn
  · rw [List.concat_eq_append] at e
    subst e
    have ny := last_ne hcut
    obtain ⟨b1, _, b3, _⟩ := side_bound hc (fs := i) fun f hf => h f (List.mem_append_left _ hf)
    obtain ⟨a1, a2, a3, a4⟩ := h y (by simp)
    rw [sideL_snoc, sideR_snoc, List.length_append, List.length_singleton, Nat.add_sub_cancel]
    have p := pow_pos' hc i.length
    have one : 1 ≤ y.1 + y.2 := by
      rcases Int.lt_or_le 0 (y.1 + y.2) with q | q
      · omega
      · exact absurd (Prod.ext (show y.1 = 0 by omega) (show y.2 = 0 by omega)) ny
    have q1 : c ^ i.length * 1 ≤ c ^ i.length * (y.1 + y.2) := Int.mul_le_mul_of_nonneg_left one (by omega)
    rw [Int.mul_add] at q1
    omega
def spCountI : Sp := fun vs H Q _ => ∃ i : Int, vs = [.int i] ∧ ∀ H', Same H H' → Q (.bl (smallB i && decide (0 ≤ i))) H'
def spLeast : Sp := fun vs H Q _ => ∃ c N : Int, vs = [.int c, .int N] ∧ (c = 2 ∨ c = 3) ∧ 0 ≤ N ∧ N < BIG ∧ ∀ n : Nat, IsLeast c N n → Q (.int (n : Int)) H
def spMost : Sp := fun vs H Q _ => ∃ c N : Int, vs = [.int c, .int N] ∧ (c = 2 ∨ c = 3) ∧ 0 ≤ N ∧ N < BIG ∧ ∀ n : Nat, IsMost c N n → Q (.int (n : Int)) H
def spLevels : Sp := fun vs H Q _ => ∃ c N : Int, vs = [.int c, .int N] ∧ (c = 2 ∨ c = 3) ∧ 0 ≤ N ∧ N < BIG ∧
  ∀ (p : Addr) (L M : Nat) (H' : Hp), Same H H' → H' p = some (.tup [.int (L : Int), .int (M : Int)]) → IsLeast c N L → IsMost c N M → Q (.ref p) H'
section
variable {P : Program} {w : World} {K : PySem.W.Frag} {mg : Str → Option Value} {base : Heap}
theorem c_count (T : Txt K mg) (C_is_integer : CalG P w K mg base 1 "is_integer" ["value"] (spJ intB)) (D : DefAt K mg "is_count" s_is_count ["value"]) : CalG P w K mg base 2 "is_count" ["value"] spCountI := by
  refine calOk D sc_is_count (fun xs H Q E h => ?_) (fun f cdv A out s H xs Q E hgd hr h => ?_)
  · obtain ⟨i, rfl, _⟩ := h
    rfl
  · obtain ⟨i, rfl, k⟩ := h
    have nd := sc_is_count.nd
    refine ⟨_, (pss_one (ps_ret (pe_and (pe_k C_is_integer hgd hr (by decide) rfl (pa_cons (pv 0) pa_nil)) (pe_one (pe_cmpR op_ge (pv 0) pe_int (nomark _)))))), ?_⟩
    refine ⟨_, rfl, _, _, rfl, .int i, fun H1 s1 => ⟨_, rfl, ite2 (fun h1 => ?_) (fun h1 => ?_)⟩⟩
    · refine ⟨_, rfl, _, _, rfl, rfl, ?_⟩
      have k' := k H1 s1
      rw [show smallB i = true from h1] at k'
      exact k'
    · have k' := k H1 s1
      rw [show smallB i = false from Bool.eq_false_iff.mpr h1] at k'
      exact k'
theorem c_least (T : Txt K mg) (D : DefAt K mg "_least_levels" s__least_levels ["arity", "length"]) : CalG P w K mg base 1 "_least_levels" ["arity", "length"] spLeast := by
  refine calOk D sc__least_levels (fun xs H Q E h => ?_) (fun f cdv A out s H xs Q E hgd hr h => ?_)
  · obtain ⟨c, N, rfl, _⟩ := h
    rfl
  · obtain ⟨c, N, rfl, hc, h0, hN, k⟩ := h
    have nd := sc__least_levels.nd
    refine ⟨_, (pss_cons (ps_set (i := 2) nd rfl (.inl rfl) pe_int)
      (pss_cons (ps_set (i := 3) nd rfl (.inl rfl) pe_int)
      (pss_cons (ps_set (i := 4) nd rfl (.inl rfl) pe_int)
      (pss_cons (ps_while PassesOwn.never (pt_cmpR op_lt (pv 3) (pv 1) (nomark _)) (pss_cons (ps_set (i := 3) nd rfl (.inl rfl) (pe_op op_add (pv 3) (pe_op op_mul (pe_op op_mul pe_int (pe_gv rfl T.gMAX_SIDE)) (pv 4))))
        (pss_cons (ps_set (i := 4) nd rfl (.inl rfl) (pe_op op_mul (pv 4) (pv 0)))
        (pss_one (ps_aug (i := 2) nd rfl (.inl rfl) pe_int ip_add)))))
      (pss_one (ps_ret (pv 2))))))), ?_⟩
    refine ⟨fun m σ H' => ∃ n : Nat, m = 200 - n ∧ σ = [some (.int c), some (.int N), some (.int (n : Int)), some (.int (14 * gsum c n)), some (.int (c ^ n))] ∧ (∀ j : Nat, j < n → 14 * gsum c j < N) ∧ H' = H, ?_, ?_⟩
    · exact ⟨_, 0, rfl, (by rw [Int.pow_zero]; rfl), fun j hj => absurd hj (Nat.not_lt_zero j), rfl⟩
    · rintro m σ H' ⟨n, rfl, rfl, hb, rfl⟩
      refine ⟨_, rfl, _, rfl, ?_⟩
      by_cases q : 14 * gsum c n < N
      · have n200 : n < 200 := by
          rcases Nat.lt_or_ge n 200 with z | z
          · exact z
          · have := gsum_mono hc z
            have := gsum200 hc
            omega
        refine ⟨_, _, rfl, rfl, true, congrArg V.bl (decide_eq_true q), ?_⟩
        refine ⟨_, fun _ _ n => n, ?_⟩
        refine ⟨_, rfl, _, _, rfl, rfl, .inl ⟨by decide, by decide⟩, _, rfl, _, _, rfl, rfl, .inl ⟨by decide, by decide⟩, _, _, rfl, rfl, ?_⟩
        refine ⟨_, rfl, _, rfl, _, _, rfl, rfl, .inr ⟨by omega, by omega⟩, ?_⟩
        refine ⟨_, rfl, _, _, rfl, rfl, 200 - (n + 1), (by omega), n + 1, rfl, ?_, fun j hj => ?_, rfl⟩
        · rw [gsum_succ, Int.pow_succ, Int.mul_add]
          rfl
        · by_cases e : j = n
          · rw [e]
            exact q
          · exact hb j (by omega)
      · refine ⟨_, _, rfl, rfl, false, congrArg V.bl (decide_eq_false q), ?_⟩
        exact ⟨_, rfl, k n ⟨hb, by omega⟩⟩
theorem c_most (T : Txt K mg) (D : DefAt K mg "_greatest_levels" s__greatest_levels ["arity", "length"]) : CalG P w K mg base 1 "_greatest_levels" ["arity", "length"] spMost := by
  refine calOk D sc__greatest_levels (fun xs H Q E h => ?_) (fun f cdv A out s H xs Q E hgd hr h => ?_)
  · obtain ⟨c, N, rfl, _⟩ := h
    rfl
  · obtain ⟨c, N, rfl, hc, h0, hN, k⟩ := h
    have nd := sc__greatest_levels.nd
    refine ⟨_, (pss_cons (ps_set (i := 2) nd rfl (.inl rfl) pe_int)
      (pss_cons (ps_set (i := 3) nd rfl (.inl rfl) pe_int)
      (pss_cons (ps_while PassesOwn.never (pt_cmpR op_le (pv 3) (pv 1) (nomark _)) (pss_cons (ps_set (i := 3) nd rfl (.inl rfl) (pe_op op_mul (pv 3) (pv 0)))
        (pss_one (ps_aug (i := 2) nd rfl (.inl rfl) pe_int ip_add))))
      (pss_one (ps_ret (pv 2)))))), ?_⟩
    refine ⟨fun m σ H' => ∃ n : Nat, m = 200 - n ∧ σ = [some (.int c), some (.int N), some (.int (n : Int)), some (.int (c ^ n))] ∧ (∀ j : Nat, j < n → c ^ j ≤ N) ∧ H' = H, ?_, ?_⟩
    · exact ⟨_, 0, rfl, (by rw [Int.pow_zero]; rfl), fun j hj => absurd hj (Nat.not_lt_zero j), rfl⟩
    · rintro m σ H' ⟨n, rfl, rfl, hb, rfl⟩
      refine ⟨_, rfl, _, rfl, ?_⟩
      by_cases q : c ^ n ≤ N
      · have n200 : n < 200 := by
          rcases Nat.lt_or_ge n 200 with z | z
          · exact z
          · have := pow_mono hc z
            have := pow200 hc
            omega
        refine ⟨_, _, rfl, rfl, true, congrArg V.bl (decide_eq_true q), ?_⟩
        refine ⟨_, fun _ _ n => n, ?_⟩
        refine ⟨_, rfl, _, rfl, _, _, rfl, rfl, .inr ⟨by omega, by omega⟩, ?_⟩
        refine ⟨_, rfl, _, _, rfl, rfl, 200 - (n + 1), (by omega), n + 1, rfl, ?_, fun j hj => ?_, rfl⟩
        · rw [Int.pow_succ]
          rfl
        · by_cases e : j = n
          · rw [e]
            exact q
          · exact hb j (by omega)
      · refine ⟨_, _, rfl, rfl, false, congrArg V.bl (decide_eq_false q), ?_⟩
        exact ⟨_, rfl, k n ⟨hb, by omega⟩⟩
theorem c_levels (T : Txt K mg) (C_check_arity : CalG P w K mg base 3 "check_arity" ["arity"] spCheckArity) (C_is_count : CalG P w K mg base 2 "is_count" ["value"] spCountI)
    (C__least_levels : CalG P w K mg base 1 "_least_levels" ["arity", "length"] spLeast) (C__greatest_levels : CalG P w K mg base 1 "_greatest_levels" ["arity", "length"] spMost)
    (D : DefAt K mg "levels_for" s_levels_for ["arity", "length"]) : CalG P w K mg base 4 "levels_for" ["arity", "length"] spLevels := by
  refine calOk D sc_levels_for (fun xs H Q E h => ?_) (fun f cdv A out s H xs Q E hgd hr h => ?_)
  · obtain ⟨c, N, rfl, _⟩ := h
    rfl
  · obtain ⟨c, N, rfl, hc, h0, hN, k⟩ := h
    have nd := sc_levels_for.nd
    refine ⟨_, (pss_cons (ps_expr (pe_k C_check_arity hgd hr (by decide) rfl (pa_cons (pv 0) pa_nil)))
      (pss_cons (ps_if (pt_not (pt_val (pe_k C_is_count hgd hr (by decide) rfl (pa_cons (pv 1) pa_nil)))) (pss_one (ps_never)) pss_nil)
      (pss_one (ps_ret (pe_tup (pa_cons (pe_k C__least_levels hgd hr (by decide) rfl (pa_cons (pv 0) (pa_cons (pv 1) pa_nil))) (pa_cons (pe_k C__greatest_levels hgd hr (by decide) rfl (pa_cons (pv 0) (pa_cons (pv 1) pa_nil))) pa_nil))))))), ?_⟩
    have sm : (smallB N && decide (0 ≤ N)) = true := by
      unfold smallB
      have bp : (0 : Int) < BIG := by decide
      rw [decide_eq_true h0, decide_eq_true hN, decide_eq_true (show -BIG < N by omega)]
      rfl
    refine ⟨_, rfl, c, rfl, hc, fun H1 s1 => ?_⟩
    refine go_nx ?_
    refine a_if (fun b H' => b = false ∧ Same H1 H') (fun Q' kQ => ?_) (fun H' h => nomatch h.1) (fun H2 h2 => ?_)
    · exact ⟨_, rfl, N, rfl, fun H2 s2 => ⟨true, congrArg V.bl sm, kQ _ _ ⟨rfl, s2⟩⟩⟩
    refine go_nx ?_
    refine ⟨_, rfl, _, rfl, c, N, rfl, hc, h0, hN, fun L hL => ?_⟩
    refine ⟨_, rfl, _, rfl, c, N, rfl, hc, h0, hN, fun M hM => ?_⟩
    refine ⟨(by show 2 ≤ sizeLine; decide), fun p np => ?_⟩
    exact k p L M _ ((s1.trans h2.2).trans (same_new np)) upd_same hL hM
end
theorem Same.tups {H H' : Hp} (s : Same H H') (p : Addr) (xs : List V) (h : H p = some (.tup xs)) : H' p = some (.tup xs) := s _ _ h
theorem alg_step (left m p c X : Int) : left + p * c * X = left - m * p + p * (X * c + m) := by
  rw [Int.mul_add, Int.mul_comm X c, ← Int.mul_assoc, Int.mul_comm p m]
  omega
def pows (c : Int) (n : Nat) : List Int := (List.range n).map fun j => c ^ j
theorem pows_succ (c : Int) (n : Nat) : pows c (n + 1) = pows c n ++ [c ^ n] := by
  unfold pows
  rw [List.range_succ, List.map_append]
  rfl
theorem pows_sum (c : Int) : ∀ n, (pows c n).sum = gsum c n
  | 0 => rfl
  | n + 1 => by
    rw [pows_succ, List.sum_append, pows_sum c n, gsum_succ]
    simp
theorem pows_len (c : Int) (n : Nat) : (pows c n).length = n := by simp [pows]
theorem pows_at (c : Int) {n j : Nat} (h : j < n) : ((pows c n).map V.int)[j]? = some (.int (c ^ j)) := by
  simp [pows, h]
/-- one step of the law's own rows: the number of bundles at a level -/
theorem many_step {c : Int} (hc : c = 2 ∨ c = 3) {l : Nat} {left t : Int} (ht : t = 0 ∨ t = 1) (h0 : 0 ≤ left) (h1 : left ≤ 14 * gsum c (l + 1)) (hl : t = 1 → c ^ l ≤ left) {m : Int}
    (hm : m = if (left - 14 * gsum c l + c ^ l - 1) / c ^ l > t then (left - 14 * gsum c l + c ^ l - 1) / c ^ l else t) :
    t ≤ m ∧ 0 ≤ m ∧ m ≤ 14 ∧ m * c ^ l ≤ left ∧ left - m * c ^ l ≤ 14 * gsum c l := by
  have p := pow_pos' hc l
  have g := pow_gsum hc l
  have n := gsum_nn hc l
  rw [gsum_succ] at h1
  have d1 := Int.ediv_mul_le (left - 14 * gsum c l + c ^ l - 1) (show c ^ l ≠ 0 by omega)
  have d2 := Int.lt_ediv_add_one_mul_self (left - 14 * gsum c l + c ^ l - 1) (show 0 < c ^ l by omega)
  generalize (left - 14 * gsum c l + c ^ l - 1) / c ^ l = q at *
  rw [Int.add_mul, Int.one_mul] at d2
  have q15 : q < 15 := by
    refine Int.lt_of_mul_lt_mul_right (a := c ^ l) ?_ (by omega)
    omega
  by_cases z : q > t
  · rw [if_pos z] at hm
    subst hm
    refine ⟨by omega, by omega, by omega, by omega, by omega⟩
  · rw [if_neg z] at hm
    subst hm
    have qt : q * c ^ l ≤ m * c ^ l := Int.mul_le_mul_of_nonneg_right (by omega) (by omega)
    rcases ht with rfl | rfl
    · rw [Int.zero_mul] at *
      refine ⟨by omega, by omega, by omega, by omega, by omega⟩
    · rw [Int.one_mul] at *
      have := hl rfl
      refine ⟨by omega, by omega, by omega, by omega, by omega⟩
theorem many_bad {c : Int} (hc : c = 2 ∨ c = 3) {l : Nat} {left : Int} (h : left < c ^ l ∨ 14 * gsum c (l + 1) < left) {m : Int}
    (hm : m = if (left - 14 * gsum c l + c ^ l - 1) / c ^ l > 1 then (left - 14 * gsum c l + c ^ l - 1) / c ^ l else 1) : 14 < m ∨ left < m * c ^ l := by
  have p := pow_pos' hc l
  rw [gsum_succ] at h
  have d2 := Int.lt_ediv_add_one_mul_self (left - 14 * gsum c l + c ^ l - 1) (show 0 < c ^ l by omega)
  generalize (left - 14 * gsum c l + c ^ l - 1) / c ^ l = q at *
  rw [Int.add_mul, Int.one_mul] at d2
  rcases h with h | h
  · right
    have m1 : 1 ≤ m := by
      rw [hm]
      split <;> omega
    have : 1 * c ^ l ≤ m * c ^ l := Int.mul_le_mul_of_nonneg_right m1 (by omega)
    omega
  · left
    have q15 : 14 < q := by
      refine Int.lt_of_mul_lt_mul_right (a := c ^ l) ?_ (by omega)
      omega
    rw [hm, if_pos (by omega)]
    exact q15
def spRowWith : Sp := fun vs H Q _ => ∃ (c N : Int) (n : Nat), vs = [.int c, .int N, .int (n : Int)] ∧ (c = 2 ∨ c = 3) ∧ 0 ≤ N ∧ n ≤ 201 ∧
  ((Good c N n ∧ ∀ (v : V) (fs : List (Int × Int)) (H' : Hp), Same H H' → RowAt H' v fs → fs.length = n → (∀ f ∈ fs, Side 7 f) → cutF fs = fs → sideL c fs + sideR c fs = N → Q v H') ∨
   (Bad c N n ∧ ∀ H', Same H H' → Q .non H'))
section
variable {P : Program} {w : World} {K : PySem.W.Frag} {mg : Str → Option Value} {base : Heap}
theorem c_row_with (T : Txt K mg) (D : DefAt K mg "_law_row_with" s__law_row_with ["_law_arity", "_law_length", "_law_levels"]) : CalG P w K mg base 1 "_law_row_with" ["_law_arity", "_law_length", "_law_levels"] spRowWith := by
  refine calOk D sc__law_row_with (fun xs H Q E h => ?_) (fun f cdv A out s H xs Q E hgd hr h => ?_)
  · obtain ⟨c, N, n, rfl, _⟩ := h
    rfl
  · obtain ⟨c, N, n, rfl, hc, h0, hn, k⟩ := h
    have nd := sc__law_row_with.nd
    refine ⟨_, (pss_cons (ps_par (i := 3) (j := 4) (by rfl) nd rfl rfl (by decide) rfl rfl (pa_cons pe_int (pa_cons (pe_lst pa_nil) pa_nil)) (by rfl))
      (pss_cons (ps_for PassesOwn.never rfl (pi_range1 rfl T.range (pa_cons (pv 2) pa_nil)) (pg_name (i := 5) nd rfl (.inl rfl)) (pss_cons (ps_expr (pe_bm PySem.F.plainAttrs_list PySem.F.slot_list_append PySem.F.type_list_append mt_append (pv 4) (pa_cons (pv 3) pa_nil)))
        (pss_one (ps_set (i := 3) nd rfl (.inl rfl) (pe_op op_mul (pv 3) (pv 0))))))
      (pss_cons (ps_if (pt_cmpR op_eq (pv 2) pe_int (nomark _)) (pss_one (ps_ret (pe_ifExp (pt_cmpR op_eq (pv 1) pe_int (nomark _)) (pe_tup pa_nil) pe_non))) pss_nil)
      (pss_cons (ps_par3 (i := 6) (j := 7) (l := 8) (by rfl) nd rfl rfl rfl (by decide) (by decide) (by decide) rfl rfl rfl (pa_cons (pe_op op_mul pe_int (pe_callB (cr_sum rfl) (by rfl) T.sum (by decide +kernel) (pa_cons (pv 4) pa_nil))) (pa_cons (pv 1) (pa_cons (pe_lst pa_nil) pa_nil))) (by rfl))
      (pss_cons (ps_for PassesOwn.never rfl (pi_range3 rfl T.range (pa_cons (pe_op op_sub (pv 2) pe_int) (pa_cons (pe_un un_neg pe_int) (pa_cons (pe_un un_neg pe_int) pa_nil)))) (pg_name (i := 9) nd rfl (.inl rfl)) (pss_cons (ps_set (i := 6) nd rfl (.inl rfl) (pe_op op_sub (pv 6) (pe_op op_mul pe_int (pe_ix ix_list (pv 4) (pv 9) (fun _ _ => rfl)))))
        (pss_cons (ps_set (i := 10) nd rfl (.inl rfl) (pe_callB (call_max2 rfl) (by rfl) T.max (by decide +kernel) (pa_cons (pe_callTy call_int1 (by rfl) T.int (by decide +kernel) (pa_cons (pe_cmpR op_eq (pv 9) (pe_op op_sub (pv 2) pe_int) (nomark _)) pa_nil)) (pa_cons (pe_op op_fdivW (pe_op op_sub (pe_op op_add (pe_op op_sub (pv 7) (pv 6)) (pe_ix ix_list (pv 4) (pv 9) (fun _ _ => rfl))) pe_int) (pe_ix ix_list (pv 4) (pv 9) (fun _ _ => rfl))) pa_nil))))
        (pss_cons (ps_if (PW.pt (pw_or (pt_cmpR op_gt (pv 10) pe_int (nomark _)) (pw_or1 (pt_cmpR op_gt (pe_op op_mul (pv 10) (pe_ix ix_list (pv 4) (pv 9) (fun _ _ => rfl))) (pv 7) (nomark _))))) (pss_one (ps_ret pe_non)) pss_nil)
        (pss_cons (ps_expr (pe_bm PySem.F.plainAttrs_list PySem.F.slot_list_append PySem.F.type_list_append mt_append (pv 8) (pa_cons (pe_tup (pa_cons (pe_op op_fdivW (pv 10) pe_int) (pa_cons (pe_op op_sub (pv 10) (pe_op op_fdivW (pv 10) pe_int)) pa_nil))) pa_nil)))
        (pss_one (ps_set (i := 7) nd rfl (.inl rfl) (pe_op op_sub (pv 7) (pe_op op_mul (pv 10) (pe_ix ix_list (pv 4) (pv 9) (fun _ _ => rfl)))))))))))
      (pss_one (ps_ret (pe_ifExp (pt_cmpR op_eq (pv 7) pe_int (nomark _)) (pe_callTy call_tuple_of (by rfl) T.tuple (by decide +kernel) (pa_cons (pe_revL (pv 8)) pa_nil)) pe_non)))))))), ?_⟩
    -- size, sizes
    refine ⟨(by show 0 ≤ sizeLine; decide), fun l nl => ⟨_, _, rfl, ?_⟩⟩
    refine ⟨_, rfl, _, rfl, (by omega), (by omega), ?_⟩
    refine for_range (fun i σ H' => ∃ v5, σ = [some (.int c), some (.int N), some (.int n), some (.int (c ^ i)), some (.ref l), v5, none, none, none, none, none] ∧ Same H H' ∧ H' l = some (.lst ((pows c i).map V.int))) ?_ ?_ ?_
    · exact ⟨_, (by rw [Int.pow_zero]; rfl), same_new nl, upd_same⟩
    · rintro i σ H1 hi ⟨v5, rfl, s1, hl⟩
      refine ⟨_, rfl, .inl ⟨rfl, _, SqL.of hl⟩, _, rfl, l, _, _, rfl, rfl, hl, (by rw [List.length_map, pows_len]; exact small1000 (by omega)), ?_⟩
      refine ⟨_, rfl, _, rfl, _, _, rfl, rfl, .inr ⟨by omega, by omega⟩, ?_⟩
      refine ⟨_, (by rw [Int.pow_succ]; rfl), Same.put s1 nl, ?_⟩
      rw [upd_same, pows_succ, List.map_append]
      rfl
    rintro σ H1 ⟨v5, rfl, s1, hl⟩
    rw [show ((n : Int)).toNat = n by omega] at *
    refine go_nx ?_
    by_cases z : n = 0
    · subst z
      refine a_if (fun b H' => b = true ∧ H' = H1) (fun Q' kQ => ?_) (fun H' h => ?_) (fun H' h => nomatch h.1)
      · exact ⟨_, rfl, rfl, true, congrArg V.bl (decide_eq_true rfl), kQ _ _ ⟨rfl, rfl⟩⟩
      rw [h.2]
      rcases k with ⟨hg, k⟩ | ⟨hb, k⟩
      · have N0 : N = 0 := by
          rcases hg with hg | hg
          · exact hg.2
          · omega
        refine ⟨_, rfl, rfl, true, congrArg V.bl (decide_eq_true (by rw [N0])), (by show 0 ≤ sizeLine; decide), fun p np => ?_⟩
        exact k _ [] _ (s1.trans (same_new np)) ⟨p, [], rfl, upd_same, .nil⟩ rfl (fun _ z => nomatch z) rfl N0.symm
      · have N0 : N ≠ 0 := by
          rcases hb with hb | hb
          · omega
          · have e : gsum c 0 = 0 := rfl
            have e2 : 14 * gsum c 0 < N := hb
            omega
        refine ⟨_, rfl, rfl, false, congrArg V.bl (decide_eq_false fun e => N0 (V.int.inj e)), ?_⟩
        exact k _ s1
    refine a_if (fun b H' => b = false ∧ H' = H1) (fun Q' kQ => ?_) (fun H' h => nomatch h.1) (fun H' h => ?_)
    · exact ⟨_, rfl, rfl, false, congrArg V.bl (decide_eq_false fun e => z (by have := V.int.inj e; omega)), kQ _ _ ⟨rfl, rfl⟩⟩
    obtain ⟨_, rfl⟩ := h
    refine go_nx ?_
    -- room, left, found
    refine ⟨_, rfl, l, pows c n, rfl, SqL.of hl, _, _, rfl, rfl, .inl ⟨by decide, by decide⟩, _, rfl, (by show 0 ≤ sizeLine; decide), fun q nq => ?_⟩
    rw [pows_sum]
    have s2 := same_new (o := .lst []) nq
    refine ⟨_, _, _, rfl, ?_⟩
    have hl3 := s2 _ _ hl
    have hq3 : upd H' q (.lst []) q = some (.lst []) := upd_same
    have s13 := s1.trans s2
    have nqH : H q = none := s1.free nq
    have nlq : l ≠ q := ne_of_none hl nq
    generalize upd H' q (.lst []) = H3 at *
    refine ⟨_, rfl, _, _, rfl, rfl, _, rfl, _, rfl, _, _, _, _, rfl, RgC.neg (by omega) (by omega) (by decide) (by decide), ?_⟩
    have cnt : (((n : Int) - 1) - (-1)).toNat = n := by omega
    refine for_rangeC (fun i σ H' => ∃ v3 v5 v9 v10 left gs ys, σ = [some (.int c), some (.int N), some (.int n), v3, some (.ref l), v5, some (.int (14 * gsum c (n - i))), some (.int left), some (.ref q), v9, v10] ∧ Same H H' ∧ H' l = some (.lst ((pows c n).map V.int)) ∧
      H' q = some (.lst ys) ∧ FormsAt H' ys gs ∧ gs.length = i ∧ (∀ f ∈ gs, Side 7 f) ∧ (∀ g r, gs = g :: r → g ≠ (0, 0)) ∧ N = left + c ^ (n - i) * (sideL c gs.reverse + sideR c gs.reverse) ∧
      ((i = 0 ∧ left = N) ∨ (Good c N n ∧ 0 ≤ left ∧ left ≤ 14 * gsum c (n - i)))) ?_ ?_ ?_
    · exact ⟨_, _, _, _, N, [], [], rfl, s13, hl3, hq3, .nil, rfl, (fun _ z => nomatch z), (fun _ _ z => nomatch z), by simp [sideL, sideR], .inl ⟨rfl, rfl⟩⟩
    · rintro i σ H4 hi ⟨v3, v5', v9, v10, left, gs, ys, rfl, s4, hl4, hq4, hF, hgl, hgs, hg0, hsum, hst⟩
      have hi' : i < n := by
        have h := hi
        omega
      obtain ⟨lev, hlev⟩ : ∃ lev, n - i = lev + 1 := ⟨n - i - 1, by omega⟩
      have e0 : (n : Int) - 1 + ((i : Nat) : Int) * -1 = ((lev : Nat) : Int) := by omega
      have hat : atI ((pows c n).map V.int) ((n : Int) - 1 + ((i : Nat) : Int) * -1) = some (.int (c ^ lev)) := by
        rw [e0]
        exact atI_nat (pows_at c (by omega))
      have e1 : 14 * gsum c (n - i) - 14 * c ^ lev = 14 * gsum c lev := by
        rw [hlev, gsum_succ]
        omega
      have p1 := pow_pos' hc lev
      have lg : (c ^ lev).natAbs.log2 < 9000 := by
        have h1 : (c ^ lev).natAbs < 2 ^ 403 := by
          rw [Int.natAbs_pow]
          refine Nat.lt_of_le_of_lt (Nat.pow_le_pow_left (show c.natAbs ≤ 3 by omega) lev) ?_
          refine Nat.lt_of_le_of_lt (Nat.pow_le_pow_right (by decide) (show lev ≤ 201 by omega)) ?_
          decide +kernel
        exact Nat.lt_trans ((Nat.log2_lt (by omega)).mpr h1) (by decide)
      -- room
      refine a_set (fun v H' => v = .int (14 * gsum c lev) ∧ H4 = H') (fun Q' kQ => ?_) ?_
      · refine ⟨_, rfl, _, rfl, _, rfl, _, _, _, _, rfl, rfl, SqL.of hl4, hat, _, _, rfl, rfl, .inl ⟨by decide, by decide⟩, _, _, rfl, rfl, kQ _ _ ⟨congrArg V.int e1, rfl⟩⟩
      rintro _ _ ⟨rfl, rfl⟩
      -- many
      have ti : ∀ b : Bool, b = decide (i = 0) → decide (V.int ((n : Int) - 1 + ((i : Nat) : Int) * -1) = V.int ((n : Int) - 1)) = b := fun b hb => by
        rw [hb]
        by_cases z : i = 0
        · rw [decide_eq_true z, decide_eq_true (congrArg V.int (by omega))]
        · rw [decide_eq_false z, decide_eq_false fun e => z (by have := V.int.inj e; omega)]
      refine a_set (fun v H' => ∃ m : Int, v = .int m ∧ H4 = H' ∧ m = if (left - 14 * gsum c lev + c ^ lev - 1) / c ^ lev > (if decide (i = 0) = true then 1 else 0) then (left - 14 * gsum c lev + c ^ lev - 1) / c ^ lev else (if decide (i = 0) = true then 1 else 0)) (fun Q' kQ => ?_) ?_
      · refine ⟨_, rfl, _, rfl, _, _, rfl, rfl, rfl, .inr ⟨_, rfl, ?_⟩⟩
        rw [ti _ rfl]
        refine ⟨_, rfl, _, rfl, _, _, rfl, rfl, _, rfl, _, rfl, _, _, _, _, rfl, rfl, SqL.of hl4, hat, _, _, rfl, rfl, _, _, rfl, rfl, _, rfl, _, rfl, _, _, _, _, rfl, rfl, SqL.of hl4, hat, _, _, rfl, rfl, ⟨by omega, lg⟩, _, _, rfl, ?_⟩
        exact kQ _ _ ⟨_, rfl, rfl, rfl⟩
      rintro _ _ ⟨m, rfl, rfl, hm⟩
      have m0 : 0 ≤ m := by
        rw [hm]
        split <;> split <;> omega
      refine a_if (fun b H' => H4 = H' ∧ (b = true ↔ (14 < m ∨ left < m * c ^ lev))) (fun Q' kQ => ?_) (fun H' h => ?_) (fun H' h => ?_)
      · by_cases q1 : 14 < m
        · exact ⟨_, rfl, _, _, rfl, rfl, true, congrArg V.bl (decide_eq_true q1), kQ _ _ ⟨rfl, fun _ => .inl q1, fun _ => rfl⟩⟩
        · refine ⟨_, rfl, _, _, rfl, rfl, false, congrArg V.bl (decide_eq_false q1), ?_⟩
          refine ⟨_, rfl, _, rfl, _, rfl, _, _, _, _, rfl, rfl, SqL.of hl4, hat, _, _, rfl, rfl, .inl ⟨by omega, by omega⟩, _, rfl, _, _, rfl, rfl, ?_⟩
          by_cases q2 : left < m * c ^ lev
          · exact ⟨true, congrArg V.bl (decide_eq_true q2), kQ _ _ ⟨rfl, fun _ => .inr q2, fun _ => rfl⟩⟩
          · exact ⟨false, congrArg V.bl (decide_eq_false q2), kQ _ _ ⟨rfl, Iff.intro (fun e => Bool.noConfusion e) (fun e => absurd e (not_or.mpr ⟨q1, q2⟩))⟩⟩
      · obtain ⟨rfl, h⟩ := h
        have ex := h.mp rfl
        rcases k with ⟨hg, k⟩ | ⟨hb, k⟩
        · exfalso
          have mm : 14 < m ∨ left < m * c ^ lev := ex
          rcases hst with ⟨rfl, rfl⟩ | ⟨_, l0, l1⟩
          · rcases hg with hg | ⟨_, g1, g2⟩
            · omega
            · have hnl : n = lev + 1 := by omega
              rw [hnl, Nat.add_sub_cancel] at g1
              rw [hnl] at g2
              have := many_step hc (l := lev) (left := left) (t := 1) (.inr rfl) h0 g2 (fun _ => g1) (m := m) hm
              omega
          · rw [hlev] at l1
            by_cases z : i = 0
            · subst z
              rcases hg with hg | ⟨_, g1, g2⟩
              · omega
              · have hnl : n = lev + 1 := by omega
                rw [hnl, Nat.add_sub_cancel] at g1
                have e : left = N := by
                  have : gs = [] := List.length_eq_zero_iff.mp hgl
                  rw [hsum, this]
                  simp [sideL, sideR]
                have := many_step hc (l := lev) (left := left) (t := 1) (.inr rfl) l0 l1 (fun _ => by rw [e]; exact g1) (m := m) hm
                omega
            · rw [decide_eq_false z] at hm
              have := many_step hc (l := lev) (left := left) (t := 0) (.inl rfl) l0 l1 (fun e => by omega) (m := m) hm
              omega
        · exact k _ s4
      · obtain ⟨rfl, h⟩ := h
        have nex : ¬ (14 < m ∨ left < m * c ^ lev) := fun e => nomatch h.mpr e
        refine go_nx ?_
        have hgood : Good c N n := by
          rcases hst with ⟨rfl, rfl⟩ | ⟨hg, _⟩
          · rcases k with ⟨hg, _⟩ | ⟨hb, _⟩
            · exact hg
            · exfalso
              have hnl : n = lev + 1 := by omega
              refine nex (many_bad hc (l := lev) ?_ (m := m) hm)
              rcases hb with ⟨_, hb⟩ | hb
              · left
                rw [hnl, Nat.add_sub_cancel] at hb
                exact hb
              · right
                rw [← hnl]
                exact hb
          · exact hg
        have facts : (i = 0 → 1 ≤ m) ∧ 0 ≤ m ∧ m ≤ 14 ∧ 0 ≤ left - m * c ^ lev ∧ left - m * c ^ lev ≤ 14 * gsum c lev := by
          have bound : ∀ (e : left = N), i = 0 → c ^ lev ≤ left ∧ left ≤ 14 * gsum c (lev + 1) := by
            intro e z
            subst z
            rcases hgood with hg | ⟨_, g1, g2⟩
            · omega
            · have hnl : n = lev + 1 := by omega
              rw [hnl, Nat.add_sub_cancel] at g1
              rw [hnl] at g2
              rw [e]
              exact ⟨g1, g2⟩
          have en : i = 0 → left = N := fun z => by
            subst z
            have : gs = [] := List.length_eq_zero_iff.mp hgl
            rw [hsum, this]
            simp [sideL, sideR]
          by_cases z : i = 0
          · obtain ⟨b1, b2⟩ := bound (en z) z
            rw [decide_eq_true z] at hm
            have := many_step hc (l := lev) (left := left) (t := 1) (.inr rfl) (by have := en z; omega) b2 (fun _ => b1) (m := m) hm
            exact ⟨fun _ => this.1, this.2.1, this.2.2.1, by omega, this.2.2.2.2⟩
          · rcases hst with ⟨z', _⟩ | ⟨_, l0, l1⟩
            · exact absurd z' z
            · rw [hlev] at l1
              rw [decide_eq_false z] at hm
              have := many_step hc (l := lev) (left := left) (t := 0) (.inl rfl) l0 l1 (fun e => by omega) (m := m) hm
              exact ⟨fun e => absurd e z, this.2.1, this.2.2.1, by omega, this.2.2.2.2⟩
        obtain ⟨f1, f2, f3, f4, f5⟩ := facts
        have d1 : 0 ≤ m / 2 ∧ m / 2 ≤ 7 ∧ 0 ≤ m - m / 2 ∧ m - m / 2 ≤ 7 := by omega
        have l2 : CDivW m 2 := ⟨by decide, by decide +kernel⟩
        refine ⟨_, rfl, .inl ⟨rfl, _, SqL.of hq4⟩, _, rfl, _, _, rfl, rfl, l2, _, rfl, _, rfl, _, _, rfl, rfl, l2, _, _, rfl, rfl, (by show 2 ≤ sizeLine; decide), fun p np => ?_⟩
        have s5 := same_new (o := .tup [.int (m / 2), .int (m - m / 2)]) np
        have hq5 := s5 _ _ hq4
        refine ⟨q, ys, _, rfl, rfl, hq5, (by rw [hF.len, hgl]; exact small1000 (by omega)), ?_⟩
        have hl6 : upd (upd H4 p (.tup [.int (m / 2), .int (m - m / 2)])) q (.lst (ys ++ [.ref p])) l = some (.lst ((pows c n).map V.int)) := by
          rw [upd_ne nlq]
          exact s5 _ _ hl4
        refine ⟨_, rfl, _, rfl, _, rfl, _, rfl, _, _, _, _, rfl, rfl, SqL.of hl6, hat, _, _, rfl, rfl, .inl ⟨by omega, by omega⟩, _, _, rfl, rfl, ?_⟩
        have er : n - (i + 1) = lev := by omega
        refine ⟨_, _, _, _, left - m * c ^ lev, gs ++ [(m / 2, m - m / 2)], ys ++ [.ref p], (by rw [er]; rfl), Same.put (s4.trans s5) nqH, hl6, upd_same, ?_, ?_, ?_, ?_, ?_, ?_⟩
        · exact ((hF.keep (Same.tups s5)).append (.cons (f := (m / 2, m - m / 2)) upd_same .nil)).keep (tups_put hq5)
        · rw [List.length_append, hgl]
          rfl
        · intro f hf
          rcases List.mem_append.mp hf with z | z
          · exact hgs f z
          · rw [List.mem_singleton.mp z]
            exact ⟨d1.1, d1.2.1, d1.2.2.1, d1.2.2.2⟩
        · intro g r e
          match gs, e, hg0 with
          | [], e, _ =>
            obtain ⟨e1, _⟩ := List.cons.inj e
            intro z
            rw [← e1] at z
            have h1 : m / 2 = 0 := congrArg Prod.fst z
            have h2 : m - m / 2 = 0 := congrArg Prod.snd z
            have := f1 (by rw [← hgl]; rfl)
            omega
          | x :: gr, e, hg0 =>
            obtain ⟨e1, _⟩ := List.cons.inj e
            rw [← e1]
            exact hg0 x gr rfl
        · rw [er, List.reverse_append]
          show N = left - m * c ^ lev + c ^ lev * ((sideL c gs.reverse * c + m / 2) + (sideR c gs.reverse * c + (m - m / 2)))
          rw [hsum, hlev, Int.pow_succ]
          have a1 : (sideL c gs.reverse * c + m / 2) + (sideR c gs.reverse * c + (m - m / 2)) = (sideL c gs.reverse + sideR c gs.reverse) * c + m := by
            rw [Int.add_mul]
            omega
          rw [a1]
          exact alg_step left m (c ^ lev) c _
        · right
          rw [er]
          exact ⟨hgood, f4, f5⟩
    · rintro σ H4 ⟨v3, v5', v9, v10, left, gs, ys, rfl, s4, hl4, hq4, hF, hgl, hgs, hg0, hsum, hst⟩
      refine go_nx ?_
      rw [cnt] at hgl hsum hst
      rw [Nat.sub_self] at hsum hst
      obtain ⟨hg, l0, l1⟩ : Good c N n ∧ 0 ≤ left ∧ left ≤ 14 * gsum c 0 := by
        rcases hst with ⟨e, _⟩ | h
        · exact absurd e z
        · exact h
      have e0 : gsum c 0 = 0 := rfl
      have le0 : left = 0 := by omega
      subst le0
      have kg : ∀ (v : V) (fs : List (Int × Int)) (H' : Hp), Same H H' → RowAt H' v fs → fs.length = n → (∀ f ∈ fs, Side 7 f) → cutF fs = fs → sideL c fs + sideR c fs = N → Q v H' := by
        rcases k with ⟨_, k⟩ | ⟨hb, _⟩
        · exact k
        · exfalso
          rcases hg with ⟨e, _⟩ | ⟨g0, g1, g2⟩
          · exact z e
          · rcases hb with ⟨_, hb⟩ | hb <;> omega
      refine ⟨_, rfl, rfl, true, congrArg V.bl (decide_eq_true rfl), ?_⟩
      refine ⟨_, rfl, q, ys, rfl, SqL.of hq4, fun r nr => ?_⟩
      have s5 := same_new (o := .lst ys.reverse) nr
      refine ⟨r, _, rfl, .inl ⟨SqL.of upd_same, fun u nu => ?_⟩⟩
      have s6 := same_new (o := .tup ys.reverse) nu
      refine kg (.ref u) gs.reverse _ ((s4.trans s5).trans s6) ⟨u, _, rfl, upd_same, (hF.reverse.keep (Same.tups s5)).keep (Same.tups s6)⟩ (by rw [List.length_reverse, hgl]) (fun f hf => hgs f (List.mem_reverse.mp hf)) ?_ ?_
      · match gs, hg0 with
        | [], _ => rfl
        | g :: gr, hg0 =>
          rw [List.reverse_cons]
          exact cutF_last _ (hg0 g gr rfl)
      · rw [Int.pow_zero, Int.one_mul] at hsum
        omega
end
def spRight : Sp := fun vs H Q _ => ∃ (d : Addr) (c N : Int), vs = [.ref d, .int c, .int N] ∧ DiceAt H d ∧ (c = 2 ∨ c = 3) ∧ 0 ≤ N ∧ N < BIG ∧ ∀ H', Mv d H H' → Q (.bl true) H'
section
variable {P : Program} {w : World} {K : PySem.W.Frag} {mg : Str → Option Value} {base : Heap}
theorem c_right (T : Txt K mg) (C__law_roll : CalG P w K mg base 1 "_law_roll" ["_law_dice_here", "_law_total"] spRoll) (C_levels_for : CalG P w K mg base 4 "levels_for" ["arity", "length"] spLevels)
    (C_is_row : CalG P w K mg base 6 "is_row" ["value"] (spJ rowB)) (C_length_of : CalG P w K mg base 9 "length_of" ["arity", "row"] spLength)
    (C__law_row_with : CalG P w K mg base 1 "_law_row_with" ["_law_arity", "_law_length", "_law_levels"] spRowWith)
    (D : DefAt K mg "_law_right" s__law_right ["_law_dice_here", "_law_arity", "_law_length"]) : CalG P w K mg base 10 "_law_right" ["_law_dice_here", "_law_arity", "_law_length"] spRight := by
  refine calOk D sc__law_right (fun xs H Q E h => ?_) (fun f cdv A out s H xs Q E hgd hr h => ?_)
  · obtain ⟨d, c, N, rfl, _⟩ := h
    rfl
  · obtain ⟨d, c, N, rfl, hd, hc, h0, hN, k⟩ := h
    have nd := sc__law_right.nd
    refine ⟨_, (pss_cons (ps_set (i := 3) nd rfl (.inl rfl) (pe_k C_levels_for hgd hr (by decide) rfl (pa_cons (pv 1) (pa_cons (pv 2) pa_nil))))
      (pss_cons (ps_if (PW.pt (pw_or (pt_not (pt_val (pe_callB call_isi (by rfl) T.isinstance (by decide +kernel) (pa_cons (pv 3) (pa_cons (pe_ty "tuple" rfl T.tuple (by decide +kernel)) pa_nil))))) (pw_or (pt_cmpR op_ne (pe_callB call_len_seq (by rfl) T.len (by decide +kernel) (pa_cons (pv 3) pa_nil)) pe_int (nomark _)) (pw_or1 (pt_not (pt_chain op_le op_le pe_int (pe_ix ix_tup (pv 3) pe_int (fun _ _ => rfl)) (pe_ix ix_tup (pv 3) pe_int (fun _ _ => rfl)))))))) (pss_one (ps_ret pe_bl)) pss_nil)
      (pss_cons (ps_asg (pv 3) (pg_tup (by rfl) (pgs_cons (pg_name (i := 4) nd rfl (.inl rfl)) (pgs_cons (pg_name (i := 5) nd rfl (.inl rfl)) pgs_nil))))
      (pss_cons (ps_for PassesOwn.never rfl (pi_list (pe_callB (cr_sortedSet rfl) (by rfl) T.sorted (by decide +kernel) (pa_cons (pe_callTy (cr_setL rfl) (by rfl) T.set (by decide +kernel) (pa_cons (pe_lst (pa_cons (pv 4) (pa_cons (pv 5) (pa_cons (pe_op op_add (pv 4) (pe_k C__law_roll hgd hr (by decide) rfl (pa_cons (pv 0) (pa_cons (pe_op op_add (pe_op op_sub (pv 5) (pv 4)) pe_int) pa_nil)))) pa_nil)))) pa_nil)) pa_nil))) (pg_name (i := 6) nd rfl (.inl rfl)) (pss_cons (ps_set (i := 7) nd rfl (.inl rfl) (pe_k C__law_row_with hgd hr (by decide) rfl (pa_cons (pv 1) (pa_cons (pv 2) (pa_cons (pv 6) pa_nil)))))
        (pss_cons (ps_if (pt_cmpR op_isN (pv 7) pe_non (nomark _)) (pss_one (ps_ret pe_bl)) pss_nil)
        (pss_one (ps_if (PW.pt (pw_or (pt_cmpR op_ne (pe_callB call_len_seq (by rfl) T.len (by decide +kernel) (pa_cons (pv 7) pa_nil)) (pv 6) (nomark _)) (pw_or1 (PW.pt (pw_and (pt_cmpR op_le (pv 6) pe_int (nomark _)) (pw_and1 (PW.pt (pw_or (pt_not (pt_val (pe_k C_is_row hgd hr (by decide) rfl (pa_cons (pv 7) pa_nil)))) (pw_or1 (pt_cmpR op_ne (pe_k C_length_of hgd hr (by decide) rfl (pa_cons (pv 1) (pa_cons (pv 7) pa_nil))) (pv 2) (nomark _))))))))))) (pss_one (ps_ret pe_bl)) pss_nil)))))
      (pss_cons (ps_if (pt_cmpR op_notN (pe_k C__law_row_with hgd hr (by decide) rfl (pa_cons (pv 1) (pa_cons (pv 2) (pa_cons (pe_op op_add (pv 5) pe_int) pa_nil)))) pe_non (nomark _)) (pss_one (ps_ret pe_bl)) pss_nil)
      (pss_one (ps_ret (pe_or (pe_cmpR op_eq (pv 4) pe_int (nomark _)) (pe_one (pe_cmpR op_isN (pe_k C__law_row_with hgd hr (by decide) rfl (pa_cons (pv 1) (pa_cons (pv 2) (pa_cons (pe_op op_sub (pv 4) pe_int) pa_nil)))) pe_non (nomark _))))))))))), ?_⟩
    refine a_set (fun v H' => ∃ (p : Addr) (L M : Nat), v = .ref p ∧ Same H H' ∧ H' p = some (.tup [.int (L : Int), .int (M : Int)]) ∧ IsLeast c N L ∧ IsMost c N M) (fun Q' kQ => ?_) ?_
    · exact ⟨_, rfl, _, rfl, c, N, rfl, hc, h0, hN, fun p L M H' s hp hL hM => kQ _ _ ⟨p, L, M, rfl, s, hp, hL, hM⟩⟩
    rintro _ H1 ⟨p, L, M, rfl, s1, hp, hL, hM⟩
    have LM := least_most hc hL hM
    have M200 := hM.le hc hN
    refine a_if (fun b H' => b = false ∧ H1 = H') (fun Q' kQ => ?_) (fun H' h => nomatch h.1) (fun H' h => ?_)
    · refine ⟨_, rfl, _, _, _, _, true, rfl, .ty _, .base (.tup hp), kit_ty (by show kitB "tuple" _ = _; decide +kernel), true, rfl, ?_⟩
      refine ⟨_, rfl, p, _, rfl, .inr (SqT.of hp), rfl, false, congrArg V.bl (by show (!decide (V.int 2 = V.int 2)) = false; decide +kernel), ?_⟩
      refine ⟨_, rfl, _, _, _, _, rfl, rfl, SqT.of hp, atI_nat (j := 0) rfl, _, _, rfl, rfl, true, congrArg V.bl (decide_eq_true (by omega)), ?_⟩
      refine ⟨_, rfl, _, _, _, _, rfl, rfl, SqT.of hp, atI_nat (j := 1) rfl, _, _, rfl, rfl, true, congrArg V.bl (decide_eq_true (by omega)), ?_⟩
      exact kQ _ _ ⟨rfl, rfl⟩
    obtain ⟨_, rfl⟩ := h
    refine go_nx ?_
    refine ⟨_, rfl, p, _, rfl, SqT.of hp, rfl, _, _, rfl, _, _, rfl, rfl, ?_⟩
    have m1 := (Mv.refl hd).ofSame s1
    refine ⟨_, rfl, _, rfl, _, rfl, _, rfl, _, rfl, _, rfl, _, _, rfl, rfl, _, _, rfl, rfl, d, _, rfl, m1.dice, by omega, log_small (by omega) (by omega), fun r H2 r0 r1 m2 f2 => ?_⟩
    refine ⟨_, _, rfl, rfl, (by show 3 ≤ sizeLine; decide), fun l nl => ?_⟩
    refine ⟨l, [(L : Int), (M : Int), (L : Int) + r], rfl, SqL.of upd_same, (by show 3 ≤ 1000; decide), fun ps cs nps lcs => ?_⟩
    refine ⟨ps, _, _, rfl, upd_same, (by have : cs ≤ 3 := lcs
                                         omega), fun ns q srt mem lns nq => ?_⟩
    have m3 := (((m1.trans m2).new (o := .lst [.int (L : Int), .int (M : Int), .int ((L : Int) + r)]) nl).new nps).new (o := .lst (ns.map V.int)) nq
    refine ⟨q, rfl, ⟨_, SqL.of upd_same⟩, ?_⟩
    have hq := upd_same (H := upd (upd H2 l (.lst [.int (L : Int), .int (M : Int), .int ((L : Int) + r)])) ps (SetO w ps (fun j => decide (j ∈ [(L : Int), (M : Int), (L : Int) + r])) cs)) (a := q) (o := .lst (ns.map V.int))
    refine for_list (K := K) (a := q) (xs := ns.map V.int) (fun i σ H' => ∃ v6 v7, σ = [some (.ref d), some (.int c), some (.int N), some (.ref p), some (.int (L : Int)), some (.int (M : Int)), v6, v7] ∧ Mv d H H' ∧ H' q = some (.lst (ns.map V.int))) ?_ ?_ ?_ ?_
    · exact ⟨_, _, rfl, m3, hq⟩
    · rintro i σ H' _ ⟨_, _, _, _, hq4⟩
      exact SqL.of hq4
    · rintro i x σ H4 hi ⟨v6, v7, rfl, m4, hq4⟩
      rw [List.getElem?_map] at hi
      obtain ⟨j, hj, rfl⟩ := Option.map_eq_some_iff.mp hi
      have hm := (mem j).mp (List.mem_of_getElem? hj)
      have hm2 : j = (L : Int) ∨ j = (M : Int) ∨ j = (L : Int) + r := by simpa using hm
      obtain ⟨n, rfl⟩ : ∃ n : Nat, j = (n : Int) := ⟨j.toNat, by omega⟩
      have nL : L ≤ n := by omega
      have nM : n ≤ M := by omega
      -- row
      refine a_set (fun v H' => ∃ fs, Same H4 H' ∧ RowAt H' v fs ∧ fs.length = n ∧ (∀ f ∈ fs, Side 7 f) ∧ cutF fs = fs ∧ sideL c fs + sideR c fs = N) (fun Q' kQ => ?_) ?_
      · exact ⟨_, rfl, _, rfl, _, rfl, c, N, n, rfl, hc, h0, by omega, .inl ⟨good_mid hc h0 hL hM nL nM, fun v fs H' s a1 a2 a3 a4 a5 => kQ _ _ ⟨fs, s, a1, a2, a3, a4, a5⟩⟩⟩
      rintro v H5 ⟨fs, s5, hrow, hlen, hs, hcut, hsum⟩
      have rB : rowB (rowD fs) = true := rowB_D hs (by omega) hcut
      refine a_if (fun b H' => b = false ∧ H5 = H') (fun Q' kQ => ?_) (fun H' h => nomatch h.1) (fun H' h => ?_)
      · obtain ⟨a, xs, rfl, _, _⟩ := hrow
        exact ⟨_, rfl, rfl, false, congrArg V.bl (decide_eq_false fun e => nomatch e), kQ _ _ ⟨rfl, rfl⟩⟩
      obtain ⟨_, rfl⟩ := h
      refine go_nx ?_
      refine a_if1 (fun b H' => b = false ∧ Same H5 H') (fun Q' kQ => ?_) (fun H' h => nomatch h.1) (fun H6 h => ?_)
      · obtain ⟨a, xs, ev, ha, hF⟩ := id hrow
        have lx := hF.len
        refine ⟨_, rfl, a, xs, by rw [ev], .inr (SqT.of ha), _, rfl, rfl, false, congrArg V.bl ?_, ?_⟩
        · rw [lx, hlen, decide_eq_true rfl]
          rfl
        refine ⟨_, rfl, _, _, rfl, rfl, true, congrArg V.bl (decide_eq_true (by omega)), ?_⟩
        refine ⟨_, rfl, _, _, rfl, hrow.dx0, fun H6 s6 => ⟨true, congrArg V.bl rB, ?_⟩⟩
        refine ⟨_, rfl, _, rfl, c, _, fs, rfl, hc, (hrow.grow s6).dx0, rB, fun H7 s7 => ⟨_, rfl, rfl, false, congrArg V.bl ?_, ?_⟩⟩
        · rw [hsum, decide_eq_true rfl]
          rfl
        · exact kQ _ _ ⟨rfl, s6.trans s7⟩
      · exact ⟨_, _, rfl, (m4.ofSame s5).ofSame h.2, h.2 _ _ (s5 _ _ hq4)⟩
    rintro σ H4 ⟨v6, v7, rfl, m4, hq4⟩
    refine go_nx ?_
    refine a_if (fun b H' => b = false ∧ Same H4 H') (fun Q' kQ => ?_) (fun H' h => nomatch h.1) (fun H5 h => ?_)
    · refine ⟨_, rfl, _, rfl, _, rfl, _, _, rfl, rfl, c, N, M + 1, rfl, hc, h0, by omega, .inr ⟨bad_above hM, fun H' s => ⟨rfl, false, congrArg V.bl ?_, kQ _ _ ⟨rfl, s⟩⟩⟩⟩
      rw [decide_eq_true rfl]
      rfl
    refine go_nx ?_
    have m5 := m4.ofSame h.2
    by_cases zL : L = 0
    · subst zL
      exact ⟨_, rfl, rfl, true, congrArg V.bl (decide_eq_true rfl), k _ m5⟩
    · refine ⟨_, rfl, rfl, false, congrArg V.bl (decide_eq_false fun e => zL (by have := V.int.inj e; omega)), ?_⟩
      refine ⟨_, rfl, _, rfl, _, rfl, _, _, rfl, rfl, c, N, L - 1, ?_, hc, h0, by omega, .inr ⟨bad_below hL zL, fun H' s => ⟨rfl, ?_⟩⟩⟩
      · rw [show (((L - 1 : Nat)) : Int) = (L : Int) - 1 by omega]
        rfl
      · rw [decide_eq_true rfl]
        exact k _ (m5.ofSame s)
end
def spLaw (K : PySem.W.Frag) : Sp := fun vs H Q _ => ∃ (a : Addr) (ns : List Int), vs = [.ref a] ∧ SqL K H a (ns.map V.int) ∧ ns.length ≤ 63 ∧ ∀ H', Q (.bl true) H'
theorem Mv.out {d : Addr} {H H' : Hp} {o : HO} (n : H d = none) (m : Mv d (upd H d o) H') : Same H H' := fun b u e => by
  have nb : b ≠ d := ne_of_none e n
  exact m.get nb (by rw [upd_ne nb]; exact e)
theorem least_is {c N : Int} (hc : c = 2 ∨ c = 3) {L n : Nat} (h : IsLeast c N L) (h1 : N ≤ 14 * gsum c n) (h2 : n = 0 ∨ 14 * gsum c (n - 1) < N) : L = n := by
  rcases Nat.lt_trichotomy L n with q | q | q
  · have := gsum_mono hc (m := L) (n := n - 1) (by omega)
    have := h.fits
    omega
  · exact q
  · have := h.below n q
    omega
theorem most_is {c N : Int} (hc : c = 2 ∨ c = 3) {M n : Nat} (h : IsMost c N M) (h1 : N < c ^ n) (h2 : n = 0 ∨ c ^ (n - 1) ≤ N) : M = n := by
  rcases Nat.lt_trichotomy M n with q | q | q
  · have := pow_mono hc (m := M) (n := n - 1) (by omega)
    have := h.over
    omega
  · exact q
  · have := h.upto n q
    omega
theorem ten60 : (10 : Int) ^ Int.toNat 60 = BIG := by decide +kernel
section
variable {P : Program} {w : World} {K : PySem.W.Frag} {mg : Str → Option Value}
theorem c_law {fa : Addr} (T : Txt K mg) (hf : mg "law" = some (.ref fa)) (D1 : DefAt K mg "is_integer" s_is_integer ["value"]) (D1b : DefAt K mg "is_count" s_is_count ["value"]) (Dw : DefAt K mg "is_within" s_is_within ["value", "least", "greatest"]) (Dpw : DefAt K mg "is_pair_within" s_is_pair_within ["value", "least", "greatest"]) (Dsu : DefAt K mg "sums_of" s_sums_of ["arity", "row"]) (D2 : DefAt K mg "is_pair" s_is_pair ["value"]) (D3 : DefAt K mg "is_form" s_is_form ["value"])
    (D4 : DefAt K mg "are_forms" s_are_forms ["value"]) (D5 : DefAt K mg "is_row" s_is_row ["value"]) (D6 : DefAt K mg "check_row" s_check_row ["row"]) (D7 : DefAt K mg "check_arity" s_check_arity ["arity"])
    (D10 : DefAt K mg "length_of" s_length_of ["arity", "row"]) (D11 : DefAt K mg "sides_of" s_sides_of ["arity", "row"])
    (D8 : DefAt K mg "levels_for" s_levels_for ["arity", "length"]) (D9 : DefAt K mg "_least_levels" s__least_levels ["arity", "length"]) (D9b : DefAt K mg "_greatest_levels" s__greatest_levels ["arity", "length"])
    (D12 : DefAt K mg "_law_dice" s__law_dice ["_law_script", "_law_spot"]) (D13 : DefAt K mg "_law_roll" s__law_roll ["_law_dice_here", "_law_total"]) (D14 : DefAt K mg "_law_pick" s__law_pick ["_law_dice_here", "_law_items"])
    (D15 : DefAt K mg "_law_cut" s__law_cut ["_law_forms"]) (D16 : DefAt K mg "_law_some_form" s__law_some_form ["_law_dice_here", "_law_high"]) (D17 : DefAt K mg "_law_some_row" s__law_some_row ["_law_dice_here", "_law_levels", "_law_high"])
    (D18 : DefAt K mg "_law_row_with" s__law_row_with ["_law_arity", "_law_length", "_law_levels"]) (D19 : DefAt K mg "_law_right" s__law_right ["_law_dice_here", "_law_arity", "_law_length"])
    (D24 : DefAt K mg "law" s_law ["_law_script"]) :
    ∃ fd : FuncData, (∀ (s : Shared) (u : Value), BindsTo s fd ⟨[u], []⟩ [("_law_script", u)]) ∧
      ∀ base : Heap, K.In base → base.Ns mainGlobals mg → FnG P w K mg base CX0 11 fa fd ["_law_script"] (spLaw K) := by
  refine lawOk hf D24 sc_law (fun xs H Q E h => ?_) (fun base hK hN f cdv A out s H xs Q E hgd hr h => ?_)
  · obtain ⟨a, ns, rfl, _⟩ := h
    rfl
  · obtain ⟨a, ns, rfl, hS, hlen, k⟩ := h
    have nd := sc_law.nd
    have C_is_integer : CalG P w K mg base 1 "is_integer" ["value"] (spJ intB) := c_is_integer T D1
    have C_is_count : CalG P w K mg base 2 "is_count" ["value"] spCountI := c_count T C_is_integer D1b
    have C_is_pair : CalG P w K mg base 2 "is_pair" ["value"] (spJ pairB) := c_is_pair T C_is_integer D2
    have C_is_within : CalG P w K mg base 2 "is_within" ["value", "least", "greatest"] spWithin := c_is_within T C_is_integer Dw
    have C_is_pair_within : CalG P w K mg base 3 "is_pair_within" ["value", "least", "greatest"] spPairWithin := c_is_pair_within T C_is_pair Dpw
    have C_is_form : CalG P w K mg base 4 "is_form" ["value"] (spJ formB) := c_is_form T C_is_pair_within D3
    have C_are_forms : CalG P w K mg base 5 "are_forms" ["value"] (spJ formsB) := c_are_forms T C_is_form D4
    have C_is_row : CalG P w K mg base 6 "is_row" ["value"] (spJ rowB) := c_is_row T C_are_forms D5
    have C_check_row : CalG P w K mg base 7 "check_row" ["row"] spCheckRow := c_check_row T C_is_row D6
    have C_check_arity : CalG P w K mg base 3 "check_arity" ["arity"] spCheckArity := c_check_arity T C_is_within D7
    have C_sides_of : CalG P w K mg base 8 "sides_of" ["arity", "row"] spSides := c_sides T C_check_arity C_check_row (c_sums T Dsu) D11
    have C_length_of : CalG P w K mg base 9 "length_of" ["arity", "row"] spLength := c_length T C_sides_of D10
    have C__least_levels : CalG P w K mg base 1 "_least_levels" ["arity", "length"] spLeast := c_least T D9
    have C__greatest_levels : CalG P w K mg base 1 "_greatest_levels" ["arity", "length"] spMost := c_most T D9b
    have C_levels_for : CalG P w K mg base 4 "levels_for" ["arity", "length"] spLevels := c_levels T C_check_arity C_is_count C__least_levels C__greatest_levels D8
    have C__law_dice : CalG P w K mg base 1 "_law_dice" ["_law_script", "_law_spot"] (spDice K) := c_dice T D12
    have C__law_roll : CalG P w K mg base 1 "_law_roll" ["_law_dice_here", "_law_total"] spRoll := c_roll T D13
    have C__law_pick : CalG P w K mg base 2 "_law_pick" ["_law_dice_here", "_law_items"] (spPick K) := c_pick T C__law_roll D14
    have C__law_cut : CalG P w K mg base 1 "_law_cut" ["_law_forms"] spCut := c_cut T D15
    have C__law_some_form : CalG P w K mg base 2 "_law_some_form" ["_law_dice_here", "_law_high"] spSomeForm := c_some_form T C__law_roll D16
    have C__law_some_row : CalG P w K mg base 3 "_law_some_row" ["_law_dice_here", "_law_levels", "_law_high"] spSomeRow := c_some_row T C__law_roll C__law_some_form C__law_cut D17
    have C__law_row_with : CalG P w K mg base 1 "_law_row_with" ["_law_arity", "_law_length", "_law_levels"] spRowWith := c_row_with T D18
    have C__law_right : CalG P w K mg base 10 "_law_right" ["_law_dice_here", "_law_arity", "_law_length"] spRight := c_right T C__law_roll C_levels_for C_is_row C_length_of C__law_row_with D19
    refine ⟨_, (pss_cons (ps_for PassesOwn.never rfl (pi_range1 rfl T.range (pa_cons (pe_callB (call_max2 rfl) (by rfl) T.max (by decide +kernel) (pa_cons pe_int (pa_cons (pe_callB (call_min2 rfl) (by rfl) T.min (by decide +kernel) (pa_cons pe_int (pa_cons (pe_callB call_len_seq (by rfl) T.len (by decide +kernel) (pa_cons (pv 0) pa_nil)) pa_nil))) pa_nil))) pa_nil)) (pg_name (i := 1) nd rfl (.inl rfl)) (pss_cons (ps_set (i := 2) nd rfl (.inl rfl) (pe_k C__law_dice hgd hr (by decide) rfl (pa_cons (pv 0) (pa_cons (pv 1) pa_nil))))
        (pss_one (ps_for PassesOwn.never rfl (pi_tup (pe_tup (pa_cons pe_int (pa_cons pe_int pa_nil)))) (pg_name (i := 3) nd rfl (.inl rfl)) (pss_cons (ps_set (i := 4) nd rfl (.inl rfl) (pe_k C__law_roll hgd hr (by decide) rfl (pa_cons (pv 2) (pa_cons pe_int pa_nil))))
          (pss_cons (ps_set (i := 5) nd rfl (.inl rfl) (pe_op op_add (pe_op op_mulW (pe_k C__law_roll hgd hr (by decide) rfl (pa_cons (pv 2) (pa_cons (pe_op op_pow pe_int pe_int) pa_nil))) (pe_k C__law_pick hgd hr (by decide) rfl (pa_cons (pv 2) (pa_cons (pe_lst (pa_cons pe_int (pa_cons (pe_op op_pow pe_int pe_int) (pa_cons (pe_op op_pow pe_int pe_int) pa_nil)))) pa_nil)))) (pe_k C__law_roll hgd hr (by decide) rfl (pa_cons (pv 2) (pa_cons (pe_op op_pow pe_int pe_int) pa_nil)))))
          (pss_cons (ps_for PassesOwn.never rfl (pi_tup (pe_tup (pa_cons (pv 4) (pa_cons (pe_op op_add (pv 4) pe_int) (pa_cons (pe_op op_mod (pv 5) (pe_op op_pow pe_int pe_int)) (pa_cons (pe_op op_sub (pe_op op_pow pe_int pe_int) pe_int) pa_nil)))))) (pg_name (i := 6) nd rfl (.inl rfl)) (pss_one (ps_if (pt_not (pt_val (pe_k C__law_right hgd hr (by decide) rfl (pa_cons (pv 2) (pa_cons (pv 3) (pa_cons (pv 6) pa_nil)))))) (pss_one (ps_ret pe_bl)) pss_nil)))
          (pss_cons (ps_set (i := 7) nd rfl (.inl rfl) (pe_k C__law_some_row hgd hr (by decide) rfl (pa_cons (pv 2) (pa_cons pe_int (pa_cons pe_int pa_nil)))))
          (pss_cons (ps_asg (pe_k C_levels_for hgd hr (by decide) rfl (pa_cons (pv 3) (pa_cons (pe_k C_length_of hgd hr (by decide) rfl (pa_cons (pv 3) (pa_cons (pv 7) pa_nil))) pa_nil))) (pg_tup (by rfl) (pgs_cons (pg_name (i := 8) nd rfl (.inl rfl)) (pgs_cons (pg_name (i := 9) nd rfl (.inl rfl)) pgs_nil))))
          (pss_one (ps_if (pt_not (pt_chain op_le op_le (pv 8) (pe_callB call_len_seq (by rfl) T.len (by decide +kernel) (pa_cons (pv 7) pa_nil)) (pv 9))) (pss_one (ps_ret pe_bl)) pss_nil)))))))))))
      (pss_cons (ps_set (i := 10) nd rfl (.inl rfl) (pe_lst (pa_cons (pe_k C_levels_for hgd hr (by decide) rfl (pa_cons pe_int (pa_cons pe_int pa_nil))) (pa_cons (pe_k C_levels_for hgd hr (by decide) rfl (pa_cons pe_int (pa_cons pe_int pa_nil))) (pa_cons (pe_k C_levels_for hgd hr (by decide) rfl (pa_cons pe_int (pa_cons pe_int pa_nil))) (pa_cons (pe_k C_levels_for hgd hr (by decide) rfl (pa_cons pe_int (pa_cons pe_int pa_nil))) pa_nil))))))
      (pss_one (ps_ret (pe_cmpR (op_eqD hr.units) (pv 10) (pe_lst (pa_cons (pe_tup (pa_cons pe_int (pa_cons pe_int pa_nil))) (pa_cons (pe_tup (pa_cons pe_int (pa_cons pe_int pa_nil))) (pa_cons (pe_tup (pa_cons pe_int (pa_cons pe_int pa_nil))) (pa_cons (pe_tup (pa_cons pe_int (pa_cons pe_int pa_nil))) pa_nil))))) (nomark _)))))), ?_⟩
    refine ⟨_, rfl, _, _, rfl, .inl hS, _, _, rfl, _, _, rfl, _, rfl, ?_, ?_, ?_⟩
    · rw [List.length_map]; split <;> split <;> omega
    · rw [List.length_map]; split <;> split <;> omega
    refine for_range (fun i σ H' => ∃ v1 v2 v3 v4 v5 v6 v7 v8 v9 v10, σ = [some (.ref a), v1, v2, v3, v4, v5, v6, v7, v8, v9, v10] ∧ Same H H') ?_ ?_ ?_
    · exact ⟨_, _, _, _, _, _, _, _, _, _, rfl, Same.refl _⟩
    · rintro i σ H0 hi ⟨v1, v2, v3, v4, v5, v6, v7, v8, v9, v10, rfl, s0⟩
      refine ⟨_, rfl, _, rfl, a, ns, i, (by show [V.ref a, V.int (0 + (i : Int))] = _; rw [Int.zero_add]), s0.seq hS, Nat.le_trans hlen (by decide), fun d l0 t0 c0 nd0 => ?_⟩
      have dd : DiceAt (upd H0 d (.lst [.int l0, .int t0, .int c0])) d := ⟨_, _, _, upd_same⟩
      have mz : ∀ {H'}, Mv d (upd H0 d (.lst [.int l0, .int t0, .int c0])) H' → Same H0 H' := fun m => Mv.out nd0 m
      generalize upd H0 d (.lst [.int l0, .int t0, .int c0]) = HD at *
      refine ⟨(by show 2 ≤ sizeLine; decide), fun p np => ⟨p, rfl, ⟨_, SqT.of upd_same⟩, ?_⟩⟩
      have mp := (Mv.refl dd).new (o := .tup [.int 2, .int 3]) np
      refine for_tup (K := K) (a := p) (xs := [.int 2, .int 3]) (fun i σ H' => ∃ v1 v3 v4 v5 v6 v7 v8 v9 v10, σ = [some (.ref a), v1, some (.ref d), v3, v4, v5, v6, v7, v8, v9, v10] ∧ Mv d HD H' ∧ H' p = some (.tup [.int 2, .int 3])) ?_ ?_ ?_ ?_
      · exact ⟨_, _, _, _, _, _, _, _, _, rfl, mp, upd_same⟩
      · rintro j σ H' _ ⟨_, _, _, _, _, _, _, _, _, _, _, hp⟩
        exact SqT.of hp
      · rintro j x σ H1 hj ⟨v1, v3, v4, v5, v6, v7, v8, v9, v10, rfl, m0, hp⟩
        have hx : ∃ c : Int, x = .int c ∧ (c = 2 ∨ c = 3) := by
          match j, hj with
          | 0, e => cases e; exact ⟨2, rfl, .inl rfl⟩
          | 1, e => cases e; exact ⟨3, rfl, .inr rfl⟩
        obtain ⟨c, rfl, hc⟩ := hx
        -- small
        refine a_set (fun v H' => ∃ sm : Int, v = .int sm ∧ 0 ≤ sm ∧ sm < 130 ∧ Mv d H1 H') (fun Q' kQ => ?_) ?_
        · exact ⟨_, rfl, d, 130, rfl, m0.dice, by decide, log_small (by decide) (by decide), fun r H' r0 r1 m _ => kQ _ _ ⟨r, rfl, r0, r1, m⟩⟩
        rintro _ H2 ⟨sm, rfl, sm0, sm1, m2⟩
        -- great
        refine a_set (fun v H' => ∃ g : Int, v = .int g ∧ Mv d H2 H') (fun Q' kQ => ?_) ?_
        · refine ⟨_, rfl, _, _, rfl, rfl, ⟨by decide, by decide, by decide⟩, d, _, rfl, m2.dice, by decide +kernel, by decide +kernel, fun r1 H3 r1a r1b m3 _ => ?_⟩
          refine ⟨_, rfl, _, _, rfl, rfl, ⟨by decide, by decide, by decide⟩, _, _, rfl, rfl, ⟨by decide, by decide, by decide⟩, (by show 3 ≤ sizeLine; decide), fun pl nl => ?_⟩
          have m4 := m3.new (o := .lst [.int 1, .int (10 ^ Int.toNat 5), .int (10 ^ Int.toNat 41)]) nl
          refine ⟨d, pl, _, rfl, m4.dice, SqL.of upd_same, m3.dice.ne nl, (by show 0 < 3; decide), (by show 3 ≤ 1000; decide), fun ix y H5 ey m5 _ => ?_⟩
          have hy : ∃ z : Int, y = .int z ∧ z.natAbs < 2 ^ 140 := by
            match ix, ey with
            | 0, e => cases e; exact ⟨_, rfl, by decide +kernel⟩
            | 1, e => cases e; exact ⟨_, rfl, by decide +kernel⟩
            | 2, e => cases e; exact ⟨_, rfl, by decide +kernel⟩
          obtain ⟨z, rfl, hz⟩ := hy
          have hr1 : r1.natAbs < 2 ^ 60 := by
            have e1 : ((10 : Int) ^ Int.toNat 18) = 1000000000000000000 := by decide +kernel
            have e2 : (2 : Nat) ^ 60 = 1152921504606846976 := by decide +kernel
            rw [e1] at r1b
            omega
          refine ⟨_, _, rfl, rfl, wide_mul hr1 hz (by decide) (by decide) (by decide), ?_⟩
          refine ⟨_, rfl, _, _, rfl, rfl, ⟨by decide, by decide, by decide⟩, d, _, rfl, m5.dice, by decide +kernel, by decide +kernel, fun r6 H6 r6a r6b m6 _ => ?_⟩
          exact ⟨_, _, rfl, rfl, kQ _ _ ⟨_, rfl, (m4.trans m5).trans m6⟩⟩
        rintro _ H3 ⟨g, rfl, m3⟩
        have m03 := (m0.trans m2).trans m3
        have hp3 := (m2.trans m3).tups m0.dice _ _ hp
        -- lengths
        refine ⟨_, rfl, _, rfl, _, _, rfl, rfl, _, rfl, _, _, rfl, rfl, ⟨by decide, by decide, by decide⟩, _, _, rfl, rfl, (by show (0 : Int) < 10 ^ Int.toNat 60; decide +kernel), _, _, rfl, rfl, ⟨by decide, by decide, by decide⟩, _, _, rfl, rfl, (by show 4 ≤ sizeLine; decide), fun pt nt => ⟨pt, rfl, ⟨_, SqT.of upd_same⟩, ?_⟩⟩
        have bp : (1000 : Int) < BIG := by decide
        have m4 := m03.new (o := .tup [.int sm, .int (sm + 1), .int (g % 10 ^ Int.toNat 60), .int (10 ^ Int.toNat 60 - 1)]) nt
        have s4 := same_new (o := .tup [.int sm, .int (sm + 1), .int (g % 10 ^ Int.toNat 60), .int (10 ^ Int.toNat 60 - 1)]) nt
        refine for_tup (K := K) (a := pt) (xs := [.int sm, .int (sm + 1), .int (g % 10 ^ Int.toNat 60), .int (10 ^ Int.toNat 60 - 1)]) (fun i σ H' => ∃ v1 v4 v5 v6 v7 v8 v9 v10, σ = [some (.ref a), v1, some (.ref d), some (.int c), v4, v5, v6, v7, v8, v9, v10] ∧ Mv d HD H' ∧ H' p = some (.tup [.int 2, .int 3]) ∧
          H' pt = some (.tup [.int sm, .int (sm + 1), .int (g % 10 ^ Int.toNat 60), .int (10 ^ Int.toNat 60 - 1)])) ?_ ?_ ?_ ?_
        · exact ⟨_, _, _, _, _, _, _, _, rfl, m4, s4 _ _ hp3, upd_same⟩
        · rintro j σ H' _ ⟨_, _, _, _, _, _, _, _, _, _, _, hp⟩
          exact SqT.of hp
        · rintro j x σ H5 hj ⟨v1, v4, v5, v6, v7, v8, v9, v10, rfl, m5, hp5, hpt⟩
          have hx : ∃ N : Int, x = .int N ∧ 0 ≤ N ∧ N < BIG := by
            match j, hj with
            | 0, e => cases e; exact ⟨_, rfl, by omega, by omega⟩
            | 1, e => cases e; exact ⟨_, rfl, by omega, by omega⟩
            | 2, e =>
              cases e
              rw [ten60]
              exact ⟨_, rfl, Int.emod_nonneg _ (by omega), Int.emod_lt_of_pos _ (by omega)⟩
            | 3, e =>
              cases e
              rw [ten60]
              exact ⟨_, rfl, by omega, by omega⟩
          obtain ⟨N, rfl, N0, N1⟩ := hx
          refine a_if1 (fun b H' => b = false ∧ Mv d H5 H') (fun Q' kQ => ?_) (fun H' h => nomatch h.1) (fun H6 h => ?_)
          · exact ⟨_, rfl, _, rfl, _, rfl, d, c, N, rfl, m5.dice, hc, N0, N1, fun H6 m6 => ⟨_, rfl, kQ _ _ ⟨rfl, m6⟩⟩⟩
          · exact ⟨_, _, _, _, _, _, _, _, rfl, m5.trans h.2, h.2.tups m5.dice _ _ hp5, h.2.tups m5.dice _ _ hpt⟩
        rintro σ H5 ⟨v1, v4, v5, v6, v7, v8, v9, v10, rfl, m5, hp5, _⟩
        refine go_nx ?_
        -- row
        refine a_set (fun v H' => ∃ q fs, v = .ref q ∧ Mv d H5 H' ∧ RowAt H' (.ref q) fs ∧ (∀ f ∈ fs, Side 7 f) ∧ fs.length ≤ 12 ∧ cutF fs = fs) (fun Q' kQ => ?_) ?_
        · refine ⟨_, rfl, d, 12, 7, rfl, m5.dice, by decide, by decide, by decide, by decide, fun q fs H' hs hl hcut m hq => ?_⟩
          exact kQ _ _ ⟨q, fs, rfl, m, .of hq, hs, by omega, hcut⟩
        rintro _ H6 ⟨q, fs, rfl, m6, hrow, hs, hl, hcut⟩
        have rB : rowB (rowD fs) = true := rowB_D hs (by omega) hcut
        obtain ⟨b1, b2, b3, b4⟩ := side_bound hc hs
        have p12 : (4 : Int) ^ fs.length ≤ 4 ^ 12 := by
          have := Nat.pow_le_pow_right (show 0 < 4 by decide) hl
          exact_mod_cast this
        have e12 : (4 : Int) ^ 12 = 16777216 := by decide +kernel
        have bp2 : (1000000000 : Int) < BIG := by decide
        refine ⟨_, rfl, _, rfl, _, rfl, c, _, fs, rfl, hc, hrow.dx0, rB, fun H7 s7 => ?_⟩
        refine ⟨c, _, rfl, hc, by omega, by omega, fun p8 L M H8 s8 h8 hL hM => ?_⟩
        refine ⟨p8, _, rfl, SqT.of h8, rfl, _, _, rfl, _, _, rfl, rfl, ?_⟩
        have rsum := row_sum hc hs
        have Ln : L ≤ fs.length := by
          rcases Nat.lt_or_ge fs.length L with z | z
          · have := hL.below _ z
            omega
          · exact z
        have nM : fs.length ≤ M := by
          rcases Nat.lt_or_ge M fs.length with z | z
          · have h1 := row_least hc hs hcut (by omega)
            have h2 := pow_mono hc (m := M) (n := fs.length - 1) (by omega)
            have h3 := hM.over
            omega
          · exact z
        refine go_nx ?_
        refine a_if1 (fun b H' => b = false ∧ H8 = H') (fun Q' kQ => ?_) (fun H' h => nomatch h.1) (fun H' h => ?_)
        · obtain ⟨aq, xs, eq, haq, hF⟩ := (hrow.grow s7).grow s8
          have lx := hF.len
          refine ⟨_, rfl, _, rfl, aq, xs, (by rw [eq]), .inr (SqT.of haq), _, _, rfl, rfl, true, congrArg V.bl (decide_eq_true (by omega)), ?_⟩
          refine ⟨_, rfl, _, _, rfl, rfl, true, congrArg V.bl (decide_eq_true (by omega)), ?_⟩
          exact kQ _ _ ⟨rfl, rfl⟩
        · obtain ⟨_, rfl⟩ := h
          have m8 := ((m5.trans m6).ofSame s7).ofSame s8
          exact ⟨_, _, _, _, _, _, _, _, _, rfl, m8, s8 _ _ (s7 _ _ (m6.tups m5.dice _ _ hp5))⟩
      · rintro σ H1 ⟨v1, v3, v4, v5, v6, v7, v8, v9, v10, rfl, m0, hp⟩
        exact ⟨_, _, _, _, _, _, _, _, _, _, rfl, s0.trans (mz m0)⟩
    · rintro σ H0 ⟨v1, v2, v3, v4, v5, v6, v7, v8, v9, v10, rfl, s0⟩
      refine go_nx ?_
      -- told
      refine a_set (fun v H' => Dx H' v (.list [.tuple [.int 2, .int 4], .tuple [.int 1, .int 4], .tuple [.int 0, .int 0], .tuple [.int 1, .int 2]])) (fun Q' kQ => ?_) ?_
      · refine ⟨2, 15, rfl, .inl rfl, by decide, by decide, fun p1 L1 M1 H1 s1 h1 l1 t1 => ?_⟩
        refine ⟨2, 14, rfl, .inl rfl, by decide, by decide, fun p2 L2 M2 H2 s2 h2 l2 t2 => ?_⟩
        refine ⟨3, 0, rfl, .inr rfl, by decide, by decide, fun p3 L3 M3 H3 s3 h3 l3 t3 => ?_⟩
        refine ⟨3, 3, rfl, .inr rfl, by decide, by decide, fun p4 L4 M4 H4 s4 h4 l4 t4 => ?_⟩
        refine ⟨(by show 4 ≤ sizeLine; decide), fun q nq => kQ _ _ ?_⟩
        have s5 := same_new (o := .lst [.ref p1, .ref p2, .ref p3, .ref p4]) nq
        rw [least_is (.inl rfl) l1 (n := 2) (by decide) (.inr (by decide)), most_is (.inl rfl) t1 (n := 4) (by decide) (.inr (by decide))] at h1
        rw [least_is (.inl rfl) l2 (n := 1) (by decide) (.inr (by decide)), most_is (.inl rfl) t2 (n := 4) (by decide) (.inr (by decide))] at h2
        rw [least_is (.inr rfl) l3 (n := 0) (by decide) (.inl rfl), most_is (.inr rfl) t3 (n := 0) (by decide) (.inl rfl)] at h3
        rw [least_is (.inr rfl) l4 (n := 1) (by decide) (.inr (by decide)), most_is (.inr rfl) t4 (n := 2) (by decide) (.inr (by decide))] at h4
        exact .lst upd_same (.cons (.tup (s5 _ _ (s4 _ _ (s3 _ _ (s2 _ _ h1)))) (.cons (.int _) (.cons (.int _) .nil))) (.cons (.tup (s5 _ _ (s4 _ _ (s3 _ _ h2))) (.cons (.int _) (.cons (.int _) .nil)))
          (.cons (.tup (s5 _ _ (s4 _ _ h3)) (.cons (.int _) (.cons (.int _) .nil))) (.cons (.tup (s5 _ _ h4) (.cons (.int _) (.cons (.int _) .nil))) .nil))))
      rintro v H2 hv
      refine a_ret (fun v _ => v = .bl true) (fun Q' kQ => ?_) (fun v H2 e => by rw [e]; exact k H2)
      refine ⟨_, rfl, (by show 2 ≤ sizeLine; decide), fun p1 n1 => ⟨(by show 2 ≤ sizeLine; decide), fun p2 n2 => ⟨(by show 2 ≤ sizeLine; decide), fun p3 n3 => ⟨(by show 2 ≤ sizeLine; decide), fun p4 n4 => ⟨(by show 4 ≤ sizeLine; decide), fun q nq => ?_⟩⟩⟩⟩⟩
      have sA := ((((same_new (o := .tup [.int 2, .int 4]) n1).trans (same_new (o := .tup [.int 1, .int 4]) n2)).trans (same_new (o := .tup [.int 0, .int 0]) n3)).trans (same_new (o := .tup [.int 1, .int 2]) n4)).trans (same_new (o := .lst [.ref p1, .ref p2, .ref p3, .ref p4]) nq)
      have hq : Dx (upd (upd (upd (upd (upd H2 p1 (.tup [.int 2, .int 4])) p2 (.tup [.int 1, .int 4])) p3 (.tup [.int 0, .int 0])) p4 (.tup [.int 1, .int 2])) q (.lst [.ref p1, .ref p2, .ref p3, .ref p4])) (.ref q) (.list [.tuple [.int 2, .int 4], .tuple [.int 1, .int 4], .tuple [.int 0, .int 0], .tuple [.int 1, .int 2]]) :=
        .lst upd_same (.cons (.tup (same_new nq _ _ (same_new n4 _ _ (same_new n3 _ _ (same_new n2 _ _ upd_same)))) (.cons (.int _) (.cons (.int _) .nil))) (.cons (.tup (same_new nq _ _ (same_new n4 _ _ (same_new n3 _ _ upd_same))) (.cons (.int _) (.cons (.int _) .nil)))
          (.cons (.tup (same_new nq _ _ (same_new n4 _ _ upd_same)) (.cons (.int _) (.cons (.int _) .nil))) (.cons (.tup (same_new nq _ _ upd_same) (.cons (.int _) (.cons (.int _) .nil))) .nil))))
      refine ⟨_, _, (hv.grow sA).dp (by decide +kernel), hq.dp (by decide +kernel), (by decide +kernel), (by decide +kernel), kQ _ _ (congrArg V.bl (by decide +kernel))⟩
end

end G

set_option Elab.async false
set_option linter.all false
namespace G
open PySem PySem.Spec PyProof.Rows L2
theorem walk_fingerbooks_k06_whole_numbers_of_levels {q : Program} {loose : List Str} {XP : (Str → Option Value) → Heap → Prop} {YP : World → Heap → Prop} {d : DefRec} {K : Params → PySem.W.Frag}
    (hdf : d.params.defaults = []) (hY : ∀ (w : World) (h : Heap), YP w h → (K w.params).In h)
    (F : ∀ (w : World) (mg : Str → Option Value) (fa : Addr) (h : Heap), (K w.params).In h → h.Ns mainGlobals mg → mg d.name = some (.ref fa) →
      ∃ fd : FuncData, (∀ (s : Shared) (u : Value), BindsTo s fd ⟨[u], []⟩ [("_law_script", u)]) ∧
        ∀ base : Heap, (K w.params).In base → base.Ns mainGlobals mg → FnG PySem.Challenge.rw_fingerbooks_k06_whole_numbers_of_levels.prog w (K w.params) mg base CX0 11 fa fd ["_law_script"] (spLaw (K w.params))) :
    PySem.W.WalkO q loose XP YP PySem.Challenge.rw_fingerbooks_k06_whole_numbers_of_levels.row.toRowW d [] (fun f vs => PySem.call f vs) :=
  endG (n := 63) (k := 11) (sp := fun K => spLaw K) rfl (by decide) hdf ⟨rfl, by decide, by decide⟩ hY F (fun K H a ns hl hS => ⟨a, ns, rfl, hS, hl, fun _ => rfl⟩)
end G

open PySem PySem.W PyProof.Rows in
set_option maxRecDepth 100000 in
set_option maxHeartbeats 0 in
theorem PySem.Challenge.cw_fingerbooks_k06_whole_numbers_of_levels_holds : PySem.Challenge.rw_fingerbooks_k06_whole_numbers_of_levels.Holds := by
  w_on; o_law; k_head; (case hw => w_witness2)
  k_fill
  refine G.walk_fingerbooks_k06_whole_numbers_of_levels rfl (fun w h Y => PySem.W.kIn_of Y) ?F
  case F =>
    intro w mg fa h KX gl hmg
    refine' G.c_law ?T hmg (G.defAt KX gl ?b0 ?a0 ?l0 ?c0 ?k0) (G.defAt KX gl ?b1 ?a1 ?l1 ?c1 ?k1) (G.defAt KX gl ?b2 ?a2 ?l2 ?c2 ?k2) (G.defAt KX gl ?b3 ?a3 ?l3 ?c3 ?k3) (G.defAt KX gl ?b4 ?a4 ?l4 ?c4 ?k4) (G.defAt KX gl ?b5 ?a5 ?l5 ?c5 ?k5) (G.defAt KX gl ?b6 ?a6 ?l6 ?c6 ?k6) (G.defAt KX gl ?b7 ?a7 ?l7 ?c7 ?k7) (G.defAt KX gl ?b8 ?a8 ?l8 ?c8 ?k8) (G.defAt KX gl ?b9 ?a9 ?l9 ?c9 ?k9) (G.defAt KX gl ?b10 ?a10 ?l10 ?c10 ?k10) (G.defAt KX gl ?b11 ?a11 ?l11 ?c11 ?k11) (G.defAt KX gl ?b12 ?a12 ?l12 ?c12 ?k12) (G.defAt KX gl ?b13 ?a13 ?l13 ?c13 ?k13) (G.defAt KX gl ?b14 ?a14 ?l14 ?c14 ?k14) (G.defAt KX gl ?b15 ?a15 ?l15 ?c15 ?k15) (G.defAt KX gl ?b16 ?a16 ?l16 ?c16 ?k16) (G.defAt KX gl ?b17 ?a17 ?l17 ?c17 ?k17) (G.defAt KX gl ?b18 ?a18 ?l18 ?c18 ?k18) (G.defAt KX gl ?b19 ?a19 ?l19 ?c19 ?k19) (G.defAt KX gl ?b20 ?a20 ?l20 ?c20 ?k20) (G.defAt KX gl ?b21 ?a21 ?l21 ?c21 ?k21) (G.defAt KX gl ?b22 ?a22 ?l22 ?c22 ?k22) (G.defAt KX gl ?b23 ?a23 ?l23 ?c23 ?k23) (G.defAt KX gl ?b24 ?a24 ?l24 ?c24 ?k24)
    (case a0 => k_is)
    (case l0 => k_is)
    (case c0 => k_is)
    (case k0 => k_is)
    (case a1 => k_is)
    (case l1 => k_is)
    (case c1 => k_is)
    (case k1 => k_is)
    (case a2 => k_is)
    (case l2 => k_is)
    (case c2 => k_is)
    (case k2 => k_is)
    (case a3 => k_is)
    (case l3 => k_is)
    (case c3 => k_is)
    (case k3 => k_is)
    (case a4 => k_is)
    (case l4 => k_is)
    (case c4 => k_is)
    (case k4 => k_is)
    (case a5 => k_is)
    (case l5 => k_is)
    (case c5 => k_is)
    (case k5 => k_is)
    (case a6 => k_is)
    (case l6 => k_is)
    (case c6 => k_is)
    (case k6 => k_is)
    (case a7 => k_is)
    (case l7 => k_is)
    (case c7 => k_is)
    (case k7 => k_is)
    (case a8 => k_is)
    (case l8 => k_is)
    (case c8 => k_is)
    (case k8 => k_is)
    (case a9 => k_is)
    (case l9 => k_is)
    (case c9 => k_is)
    (case k9 => k_is)
    (case a10 => k_is)
    (case l10 => k_is)
    (case c10 => k_is)
    (case k10 => k_is)
    (case a11 => k_is)
    (case l11 => k_is)
    (case c11 => k_is)
    (case k11 => k_is)
    (case a12 => k_is)
    (case l12 => k_is)
    (case c12 => k_is)
    (case k12 => k_is)
    (case a13 => k_is)
    (case l13 => k_is)
    (case c13 => k_is)
    (case k13 => k_is)
    (case a14 => k_is)
    (case l14 => k_is)
    (case c14 => k_is)
    (case k14 => k_is)
    (case a15 => k_is)
    (case l15 => k_is)
    (case c15 => k_is)
    (case k15 => k_is)
    (case a16 => k_is)
    (case l16 => k_is)
    (case c16 => k_is)
    (case k16 => k_is)
    (case a17 => k_is)
    (case l17 => k_is)
    (case c17 => k_is)
    (case k17 => k_is)
    (case a18 => k_is)
    (case l18 => k_is)
    (case c18 => k_is)
    (case k18 => k_is)
    (case a19 => k_is)
    (case l19 => k_is)
    (case c19 => k_is)
    (case k19 => k_is)
    (case a20 => k_is)
    (case l20 => k_is)
    (case c20 => k_is)
    (case k20 => k_is)
    (case a21 => k_is)
    (case l21 => k_is)
    (case c21 => k_is)
    (case k21 => k_is)
    (case a22 => k_is)
    (case l22 => k_is)
    (case c22 => k_is)
    (case k22 => k_is)
    (case a23 => k_is)
    (case l23 => k_is)
    (case c23 => k_is)
    (case k23 => k_is)
    (case a24 => k_is)
    (case l24 => k_is)
    (case c24 => k_is)
    (case k24 => k_is)
    (case b0 => exact fun us hl => match us, hl with | [_], _ => rfl)
    (case b1 => exact fun us hl => match us, hl with | [_], _ => rfl)
    (case b2 => exact fun us hl => match us, hl with | [_, _, _], _ => rfl)
    (case b3 => exact fun us hl => match us, hl with | [_, _, _], _ => rfl)
    (case b4 => exact fun us hl => match us, hl with | [_, _], _ => rfl)
    (case b5 => exact fun us hl => match us, hl with | [_], _ => rfl)
    (case b6 => exact fun us hl => match us, hl with | [_], _ => rfl)
    (case b7 => exact fun us hl => match us, hl with | [_], _ => rfl)
    (case b8 => exact fun us hl => match us, hl with | [_], _ => rfl)
    (case b9 => exact fun us hl => match us, hl with | [_], _ => rfl)
    (case b10 => exact fun us hl => match us, hl with | [_], _ => rfl)
    (case b11 => exact fun us hl => match us, hl with | [_, _], _ => rfl)
    (case b12 => exact fun us hl => match us, hl with | [_, _], _ => rfl)
    (case b13 => exact fun us hl => match us, hl with | [_, _], _ => rfl)
    (case b14 => exact fun us hl => match us, hl with | [_, _], _ => rfl)
    (case b15 => exact fun us hl => match us, hl with | [_, _], _ => rfl)
    (case b16 => exact fun us hl => match us, hl with | [_, _], _ => rfl)
    (case b17 => exact fun us hl => match us, hl with | [_, _], _ => rfl)
    (case b18 => exact fun us hl => match us, hl with | [_, _], _ => rfl)
    (case b19 => exact fun us hl => match us, hl with | [_], _ => rfl)
    (case b20 => exact fun us hl => match us, hl with | [_, _], _ => rfl)
    (case b21 => exact fun us hl => match us, hl with | [_, _, _], _ => rfl)
    (case b22 => exact fun us hl => match us, hl with | [_, _, _], _ => rfl)
    (case b23 => exact fun us hl => match us, hl with | [_, _, _], _ => rfl)
    (case b24 => exact fun us hl => match us, hl with | [_], _ => rfl)
    (case T =>
      refine' ⟨PySem.W.mg_none_of KX gl ?t0, PySem.W.mg_none_of KX gl ?t1, PySem.W.mg_none_of KX gl ?t2, PySem.W.mg_none_of KX gl ?t3, PySem.W.mg_none_of KX gl ?t4, PySem.W.mg_none_of KX gl ?t5, PySem.W.mg_none_of KX gl ?t6, PySem.W.mg_none_of KX gl ?t7, PySem.W.mg_none_of KX gl ?t8, PySem.W.mg_none_of KX gl ?t9, PySem.W.mg_none_of KX gl ?t10, PySem.W.mg_none_of KX gl ?t11, PySem.W.mg_none_of KX gl ?t12, PySem.W.mg_none_of KX gl ?t13, ⟨_, PySem.W.mg_of KX gl ?t14, ?r14⟩, ⟨_, PySem.W.mg_of KX gl ?t15, ?r15⟩, ⟨_, PySem.W.mg_of KX gl ?t16, ?r16⟩⟩
      (case t0 => k_is)
      (case t1 => k_is)
      (case t2 => k_is)
      (case t3 => k_is)
      (case t4 => k_is)
      (case t5 => k_is)
      (case t6 => k_is)
      (case t7 => k_is)
      (case t8 => k_is)
      (case t9 => k_is)
      (case t10 => k_is)
      (case t11 => k_is)
      (case t12 => k_is)
      (case t13 => k_is)
      (case t14 => k_is)
      (case r14 => exact ⟨_, rfl⟩)
      (case t15 => k_is)
      (case r15 => exact ⟨_, rfl⟩)
      (case t16 => k_is)
      (case r16 => exact ⟨_, rfl⟩))


