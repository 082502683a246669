import PyProof.Rows.All
import Wide.All
import OpenK.AllK
import Wide.FinOn
import HandS.ForMost
import HandS.Wide
import HandS.IsInst
import HandS.DictComp
import HandS.Zip
import KE.GoesNew
import KE.GoesMore
import HandS.SortOrd
import HandS.SortRule
import HandS.SetFor
import HandS.More
import HandS.Star
import HandS.Defaults
import PySem.Challenge.RW_holdlevels_k02_sections_and_locks
import KE.KStateDown
import HandS.Head0
import HandS.Head1
import HandS.Head2
import HandS.HeadEnd
import HandS.HeadHook1
import HandS.HeadHook2
import HandS.HeadHook3
import HandS.HeadHook4
set_option Elab.async false
set_option linter.all false
set_option maxRecDepth 100000
set_option maxHeartbeats 4000000
/-! own layer: defs whose caller has no running guard; repr of data; powers -/
namespace Gd
open PySem PySem.Spec PyProof.Rows L2

/-- room for k calls, and no built-in that watches for itself runs around -/
structure Rm (k : Nat) (A : Around) : Prop where
  rm : Room k A
  gd : A.guards = some []
theorem Rm.down {j k : Nat} {A : Around} (r : Rm k A) (h : j ≤ k) : Rm j A := ⟨r.rm.mono h, r.gd⟩
theorem Rm.body {k : Nat} {A : Around} (r : Rm (k + 1) A) (v : Env) : Rm k (A.deeper v) := ⟨r.rm.deeper v, r.gd⟩

/-- a def's promise, asked only where no guard runs around the call -/
structure Gn (pr : Program) (wo : World) (Kf : PySem.W.Frag) (glo : Str → Option Value) (bh : Heap) (kk : Nat) (ff : Addr) (fdt : FuncData) (prm : List Str) (prom : Sp) : Prop where
  lenOk : ∀ as G R X, prom as G R X → as.length = prm.length
  go : ∀ (A : Around) (out : List Env) (t : Shared) (G : Hp) (ar : Args) (us : List Value) (as : List V) (R : VK) (X : XK),
    Rm kk A → Env0 pr wo Kf glo bh A out t G → BindsTo t fdt ar (prm.zip us) → Vals as us → prom as G R X →
    codeAny (model pr wo) A (.call (.ref ff) ar) (CR CX0 out pr wo G t R X) t
theorem Gn.up {pr : Program} {wo : World} {Kf : PySem.W.Frag} {glo : Str → Option Value} {bh : Heap} {i j : Nat} {ff : Addr} {fdt : FuncData} {prm : List Str} {prom : Sp}
    (g : Gn pr wo Kf glo bh i ff fdt prm prom) (h : i ≤ j) : Gn pr wo Kf glo bh j ff fdt prm prom :=
  ⟨g.lenOk, fun A out t G ar us as R X hr => g.go A out t G ar us as R X (hr.down h)⟩

section
variable {pr : Program} {wo : World} {Kf : PySem.W.Frag} {glo : Str → Option Value} {bh : Heap}
theorem gn_of {nm ql : Str} {st : Stmt} {ff : Addr} {fdt : FuncData} {Ns ps : List Str} {k : Nat} {prom : Sp} (F : Fun Kf nm ql st ff fdt) (S : FnScope Ns ps (defScope st))
    (lenOk : ∀ as G R X, prom as G R X → as.length = ps.length)
    (bd : ∀ (cdv : Value) (A : Around) (out : List Env) (t : Shared) (G : Hp) (as : List V) (R : VK) (X : XK), Rm k (A.deeper (envOfC ql (defScope st) t.heap.objs.size ff cdv)) → prom as G R X →
      ∃ rd, PSs (cxOf CX0 pr wo Kf glo bh Ns ql (defScope st) ff cdv A out t G X).nox (defBody st) rd ∧ rd { nx := fun _ G' => R .non G', rt := R } (start Ns as) G) :
    Gn pr wo Kf glo bh (k + 1) ff fdt ps prom := by
  obtain ⟨oc, od, kV, doc, pm, an, cdv, ct, osl, rfl, lk, hcd⟩ := F.ex
  refine ⟨lenOk, fun A out t G ar us as R X hr e0 hb rv hp => ?_⟩
  have hlen := lenOk as G R X hp
  have kin : Kf.In t.heap := e0.mod.kin.keeps (fun b o e => And.left (e0.bs b o e))
  have nolim : t.heap.NoLimit := e0.mod.nolimit.keeps (fun b o e => And.left (e0.bs b o e))
  have cells : ∀ y ∈ ps.zip us, (defScope st).names.lookup y.1 = some .local ∨
      ((defScope st).names.lookup y.1 = some .cell ∧ ((cellsFrom (t.heap.objs.size + 1) (defScope st).names []).lookup y.1).isSome = true) := by
    rintro ⟨n, v⟩ hy
    rcases S.par n (List.of_mem_zip hy).1 with q | q
    · exact Or.inl q
    · exact Or.inr ⟨q, PySem.W.cellsFrom_some _ _ _ (Or.inl q)⟩
  refine codeAny_call_function hr.rm.depth (kin _ _ lk) rfl S.co S.gen rfl (PySem.W.codeRec_of kin hcd) (hb _ _ _ _ ?_)
  refine wpAny_newFunctionEnv_cells S.kind cells (fun env hee t1 hx => ?_)
  subst hee
  refine ⟨nolim.keeps hx.toInCall.keep, codeAny_func ?_⟩
  obtain ⟨rd, hrd, hq⟩ := bd cdv A out t G as R X (hr.body _) hp
  have J := inv_start (CX := CX0) (E := X) S hr.rm.hd e0 hlen rv hx
  refine wpAny_mono ((PSs.nox hrd).run [] t1 (start Ns as) G _ J hq) (fun fl t2 hfl => ?_) (fun e t2 he => he)
  cases fl with
  | ret u =>
    obtain ⟨v, _, G', J', rv', q⟩ := hfl
    exact ⟨v, G', J'.os, J'.bare, J'.base, J'.hok, rv', q⟩
  | next =>
    obtain ⟨_, G', J', q⟩ := hfl
    exact ⟨V.non, G', J'.os, J'.bare, J'.base, J'.hok, rfl, q⟩
  | brk => exact (show False from hfl.elim fun _ z => z.elim fun _ z => z.2).elim
  | cont => exact (show False from hfl.elim fun _ z => z.elim fun _ z => z.2).elim
end

section
variable {X : Cx} {k : Nat} {f : Addr} {fd : FuncData} {ps : List Str} {sp : Sp} {x : Str} {p pos : Pos} {e : Expr} {es : List Expr} {t : TA}
theorem run_g {pins : List (Addr × Obj)} {σ : L2.St} {H : Hp} {s : Shared} {Q : VK} {us : List Value} {vs : List V} (g : Gn X.prog X.w X.K X.mg X.base k f fd ps sp) (hr : Rm k X.A) (hb : Binds X.K fd ps [])
    (I : Inv X pins σ H s) (rv : Vals vs us) (h : sp vs H Q E0) : wpAny (model X.prog X.w) X.A (call (.ref f) us) (EP X pins σ Q) X.xe s := by
  have hl : us.length = ps.length := rv.length.symm.trans (g.lenOk _ _ _ _ h)
  have hb' := hb s us I.kIn (by rw [List.append_nil]; exact hl)
  rw [List.append_nil] at hb'
  refine wpAny_call (codeAny_mono (g.go X.A X.stack s H ⟨us, []⟩ us vs Q E0 hr I.env0 hb' rv h) (fun r s' hq => ?_))
  match r, hq with
  | .error _, hq => exact (show False from hq).elim
  | .ok (.ret _), hq => exact I.after hq
  | .ok .next, hq => exact (show False from hq).elim
  | .ok .brk, hq => exact (show False from hq).elim
  | .ok .cont, hq => exact (show False from hq).elim
/-- f(a, ..), the def's promise asked where no guard runs -/
theorem pe_g (g : Gn X.prog X.w X.K X.mg X.base k f fd ps sp) (hr : Rm k X.A) (hg : Gl X x) (hm : X.mg x = some (.ref f)) (hk : PySem.W.keepIn X.K (.ref f) = true) (hb : Binds X.K fd ps [])
    (ha : PA X (e :: es) t) (hdb : (x == ("__debug__" : Str)) = false := by decide) (hse : starEach (e :: es) X.env = (false, eval e X.env) :: starEach es X.env := by rfl)
    (hno : (backTo pos (starEach es X.env)).any (·.1) = false := by rfl) : PE X (.Call (.Name x p) (e :: es) [] pos) (tCall sp [] E0 t) := by
  refine ⟨fun pins s σ H Q I h => wpAny_Call_Name_kw (ld_glob I hg hm ?_ hdb)⟩
  refine PySem.W.callWith_K (h₀ := X.base) I.ok.mod.kin hk (thn (ha.run pos pins s σ H _ I h) (fun us s1 hz => ?_)) hse hno
  obtain ⟨vs, H1, I1, r, q⟩ := hz
  rw [List.append_nil] at q
  exact ⟨I1.kIn, run_g g hr hb I1 r q⟩
end

/-! ### the law's own call -/
section
variable {pr : Program} {wo : World} {Kf : PySem.W.Frag} {glo blt : Str → Option Value}
theorem law_g {k : Nat} {fa a : Addr} {fd : FuncData} {x : Str} {prom : Sp} {t : Shared} {vs : List Value} {ns : List Int}
    (kin : Kf.In t.heap) (hns : t.heap.Ns mainGlobals glo) (hb : t.heap.Ns builtinsNs blt) (hbb : ∀ y : Str, y ≠ "__name__" → blt y = bootBuiltins y) (nolim : t.heap.NoLimit) (hgn : t.gens = #[])
    (ha : t.heap.get? a = some { cls := .type "list", data := .seq vs.toArray }) (hi : IntsAre vs ns) (hl : ns.length ≤ sizeLine) (hr : Rm k callerA)
    (F : ∀ bh : Heap, Kf.In bh → bh.Ns mainGlobals glo → Gn pr wo Kf glo bh k fa fd [x] prom) (hbind : ∀ (s : Shared) (u : Value), BindsTo s fd ⟨[u], []⟩ [(x, u)])
    (hsp : ∀ G : Hp, Only G → SqL Kf G a (ns.map V.int) → prom [.ref a] G (fun v _ => v = .bl true) E0) :
    codeAny (model pr wo) callerA (.call (.ref fa) ⟨[.ref a], []⟩) (fun r s' => r = .ok (.ret (.bool true)) ∧ OldK t.heap s'.heap ∧ s'.os = t.os ∧ AllBare s'.gens) t := by
  have go : ∀ G : Hp, Only G → SqL Kf G a (ns.map V.int) → HOk pr wo G t.heap → (∀ b, G b ≠ none → b = a) → (G a ≠ none → Kf.lookup a = none) →
      codeAny (model pr wo) callerA (.call (.ref fa) ⟨[.ref a], []⟩) (fun r s' => r = .ok (.ret (.bool true)) ∧ OldK t.heap s'.heap ∧ s'.os = t.os ∧ AllBare s'.gens) t := by
    intro G only sq hok onlyA notK
    have un : ∀ b, b ≠ a → G b = none := fun b hb => Classical.byContradiction fun z => hb (onlyA b z)
    have dictNo : ∀ {b : Addr} {o : Obj} {es : Array DictEntry} {ep : Nat}, t.heap.get? b = some o → o.data = .dict es ep → G b = none := by
      intro b o es ep e d
      refine un b (fun z => ?_)
      subst z
      rw [ha] at e
      cases e
      exact nomatch (show Data.seq vs.toArray _ = Data.dict es ep from d)
    have hid : ∀ {b : Addr} {o : Obj}, t.heap.get? b = some o → G b = none → (hidT t.heap G).get? b = some o := hidT_get
    have nsH : ∀ {b : Addr} {m : Str → Option Value}, t.heap.Ns b m → (hidT t.heap G).Ns b m := by
      rintro b m ⟨o, es, ep, e, d, r⟩
      exact ⟨o, es, ep, hid e (dictNo e d), d, r⟩
    have kinH : Kf.In (hidT t.heap G) := by
      intro b o e
      refine hid (kin b o e) ?_
      cases q : G b with
      | none => rfl
      | some u =>
        have hne : G b ≠ none := by rw [q]; exact fun z => nomatch z
        have hba := onlyA b hne
        subst hba
        rw [notK hne] at e
        cases e
    obtain ⟨mc, l1, l2⟩ := nolim
    have md : Mod Kf glo (hidT t.heap G) := ⟨kinH, nsH hns, ⟨blt, nsH hb, hbb⟩, ⟨mc, nsH l1, l2⟩⟩
    have nil : ∀ b : Addr, b ∈ ([] : List Addr) → False := fun b z => nomatch z
    have e0 : Env0 pr wo Kf glo (hidT t.heap G) callerA [] t G :=
      ⟨rfl, md, fun b o e => of_hidT e, Nat.le_of_eq (hidT_size _ _), True.intro, fun b hb => (nil b hb).elim, hok, .of_eq hgn⟩
    refine codeAny_mono ((F _ kinH (nsH hns)).go callerA [] t G ⟨[.ref a], []⟩ [.ref a] [.ref a] _ _ hr e0 (hbind t (.ref a)) (.cons rfl .nil) (hsp G only sq)) (fun r s' h => ?_)
    match r, h with
    | .error _, h => exact (show False from h).elim
    | .ok .next, h => exact (show False from h).elim
    | .ok .brk, h => exact (show False from h).elim
    | .ok .cont, h => exact (show False from h).elim
    | .ok (.ret u), h =>
      obtain ⟨v, G', os, bare, ch, hok', rv, q⟩ := h
      cases (show v = V.bl true from q)
      cases (show u = Value.bool true from rv)
      refine ⟨rfl, OldK.of_keep (fun b o e => ?_), os, bare⟩
      rcases only b with z | ⟨ob, xs, z⟩
      · exact ch.keep b o e z (fun m => nil b m) (fun m => nil b m)
      · obtain ⟨e1, _⟩ := hok b _ z
        obtain ⟨e2, _⟩ := hok' b _ (ch.frzs b ob _ z)
        rw [e1] at e
        cases e
        exact e2
  have rv := vals_ints hi
  cases hk : Kf.lookup a with
  | some o =>
    have e := kin a o hk
    rw [ha] at e
    cases e
    refine go (fun _ => none) (fun _ => Or.inl rfl) (Or.inr ⟨_, vs.toArray, _, hk, rfl, rfl, rfl, ?_, ?_⟩) (fun b u z => nomatch z) (fun b z => (z rfl).elim) (fun z => (z rfl).elim)
    · rw [List.size_toArray, hi.length]; exact hl
    · simpa using rv
  | none =>
    have at_a : upd (fun _ => none) a (.frz { cls := .type "list", data := .seq vs.toArray } (.lst (ns.map V.int))) a = some (.frz { cls := .type "list", data := .seq vs.toArray } (.lst (ns.map V.int))) := upd_same
    refine go (upd (fun _ => none) a (.frz { cls := .type "list", data := .seq vs.toArray } (.lst (ns.map V.int)))) (fun b => ?_) (Or.inl (Or.inr ⟨_, at_a⟩)) (fun b u z => ?_) (fun b z => ?_) (fun _ => hk)
    · by_cases hba : b = a
      · subst hba; exact Or.inr ⟨_, _, at_a⟩
      · exact Or.inl (upd_ne hba)
    · by_cases hba : b = a
      · subst hba
        rw [at_a] at z
        cases z
        exact ⟨ha, by rw [List.length_map]; exact hl, vs, _, rv, ha⟩
      · rw [upd_ne hba] at z
        cases z
    · by_cases hba : b = a
      · exact hba
      · exact (z (upd_ne hba)).elim
end
theorem walk_g {l : PySem.W.OpenLaw} {n k : Nat} {q : Program} {loose : List Str} {XP : (Str → Option Value) → Heap → Prop} {YP : World → Heap → Prop} {d : DefRec} {K : Params → PySem.W.Frag} {sp : PySem.W.Frag → Sp} {x : Str}
    (hn : l.most = some n) (hn2 : n ≤ sizeLine) (hdf : d.params.defaults = []) (hr : Rm k callerA)
    (hY : ∀ (w : World) (h : Heap), YP w h → (K w.params).In h)
    (F : ∀ (w : World) (mg : Str → Option Value) (fa : Addr) (h : Heap), (K w.params).In h → h.Ns mainGlobals mg → mg d.name = some (.ref fa) →
      ∃ fd : FuncData, (∀ (s : Shared) (u : Value), BindsTo s fd ⟨[u], []⟩ [(x, u)]) ∧
        ∀ base : Heap, (K w.params).In base → base.Ns mainGlobals mg → Gn l.prog w (K w.params) mg base k fa fd [x] (sp (K w.params)))
    (hsp : ∀ (K : PySem.W.Frag) (H : Hp) (a : Addr) (ns : List Int), ns.length ≤ n → Only H → SqL K H a (ns.map V.int) → sp K [.ref a] H (fun v _ => v = .bl true) E0) :
    PySem.W.WalkO q loose XP YP l.row.toRowW d [] (fun f vs => PySem.call f vs) := by
  refine Att.attach_call hn hdf (fun w s₀ s₁ mg mb fa o pm cd doc a vs ns G Y ho hd hcd hmg hobj hints hlen hgens => ?_)
  obtain ⟨fd, hb, hF⟩ := F w mg fa _ (hY w _ Y) G.T.g hmg
  exact law_g (hY w _ Y) G.T.g G.T.b G.T.builtins G.T.nolimit hgens hobj hints (Nat.le_trans hlen hn2) hr hF hb (fun H hO hS => hsp _ H a ns hlen hO hS)
end Gd

set_option Elab.async false
set_option linter.all false
set_option maxRecDepth 100000
set_option maxHeartbeats 4000000
namespace Gd
open PySem PySem.Spec PyProof.Rows L2

/-! ### data: small leaves -/
mutual
def leafOk : PyData → Bool
  | .none | .bool _ => true
  | .int i => decide (i.natAbs < 10 ^ 30)
  | .str x => x.cps.toList.all fun c => decide (c < 16 ^ 8)
  | .list xs | .tuple xs => leafAll xs
  | .dict kvs => leafKv kvs
def leafAll : List PyData → Bool
  | [] => true
  | x :: xs => leafOk x && leafAll xs
def leafKv : List (PyData × PyData) → Bool
  | [] => true
  | (k, v) :: r => leafOk k && leafOk v && leafKv r
end
theorem int_short {i : Int} (h : i.natAbs < 10 ^ 30) : i.natAbs.log2 < 1920 := by
  by_cases z : i.natAbs = 0
  · rw [z]; decide
  · exact (Nat.log2_lt z).mpr (Nat.lt_of_lt_of_le h (by decide +kernel))
theorem int_text {i : Int} (h : i.natAbs < 10 ^ 30) : (PyData.shown (.int i)).length ≤ 40 := by
  have e : PyData.shown (.int i) = Str.ofString (toString i) := rfl
  rw [e]
  have h2 : (toString i).length ≤ 31 := int_text_length_le10 (by decide) h
  rw [PySem.ofString_length]
  omega
mutual
theorem leafOk_show : ∀ d : PyData, leafOk d = true → d.showable = true ∧ d.leavesShort 40 = true
  | .none, _ => ⟨rfl, rfl⟩
  | .bool _, _ => ⟨rfl, rfl⟩
  | .int i, h => by
    have h' : i.natAbs < 10 ^ 30 := by simpa [leafOk] using h
    exact ⟨by simpa [PyData.showable] using int_short h', by simpa [PyData.leavesShort] using int_text h'⟩
  | .str x, h => ⟨rfl, by simpa [PyData.leavesShort, leafOk] using h⟩
  | .list xs, h => by
    have := leafAll_show xs (by simpa [leafOk] using h)
    exact ⟨by simpa [PyData.showable] using this.1, by simpa [PyData.leavesShort] using this.2⟩
  | .tuple xs, h => by
    have := leafAll_show xs (by simpa [leafOk] using h)
    exact ⟨by simpa [PyData.showable] using this.1, by simpa [PyData.leavesShort] using this.2⟩
  | .dict kvs, h => by
    have := leafKv_show kvs (by simpa [leafOk] using h)
    exact ⟨by simpa [PyData.showable] using this.1, by simpa [PyData.leavesShort] using this.2⟩
theorem leafAll_show : ∀ ds : List PyData, leafAll ds = true → PyData.showableAll ds = true ∧ PyData.leavesShortAll 40 ds = true
  | [], _ => ⟨rfl, rfl⟩
  | d :: ds, h => by
    simp only [leafAll, Bool.and_eq_true] at h
    have h1 := leafOk_show d h.1
    have h2 := leafAll_show ds h.2
    exact ⟨by simp [PyData.showableAll, h1.1, h2.1], by simp [PyData.leavesShortAll, h1.2, h2.2]⟩
theorem leafKv_show : ∀ ds : List (PyData × PyData), leafKv ds = true → PyData.showableKv ds = true ∧ PyData.leavesShortKv 40 ds = true
  | [], _ => ⟨rfl, rfl⟩
  | (k, v) :: ds, h => by
    simp only [leafKv, Bool.and_eq_true] at h
    have h1 := leafOk_show k h.1.1
    have h2 := leafOk_show v h.1.2
    have h3 := leafKv_show ds h.2
    exact ⟨by simp [PyData.showableKv, h1.1, h2.1, h3.1], by simp [PyData.leavesShortKv, h1.2, h2.2, h3.2]⟩
end
theorem leafAll_of {ds : List PyData} (h : ∀ d ∈ ds, leafOk d = true) : leafAll ds = true := by
  induction ds with
  | nil => rfl
  | cons d ds ih => simp only [leafAll, Bool.and_eq_true]; exact ⟨h d List.mem_cons_self, ih fun x hx => h x (List.mem_cons_of_mem _ hx)⟩
theorem weightAll_le {c : Nat} {ds : List PyData} (h : ∀ d ∈ ds, d.weight ≤ c) : PyData.weightAll ds ≤ (c + 1) * ds.length := by
  induction ds with
  | nil => simp [PyData.weightAll]
  | cons d ds ih =>
    have h1 := h d List.mem_cons_self
    have h2 := ih fun x hx => h x (List.mem_cons_of_mem _ hx)
    simp only [PyData.weightAll, List.length_cons]
    rw [Nat.mul_add, Nat.mul_one]
    omega
theorem depthAll_le {c : Nat} {ds : List PyData} (h : ∀ d ∈ ds, d.depth ≤ c) : PyData.depthAll ds ≤ c := by
  induction ds with
  | nil => simp [PyData.depthAll]
  | cons d ds ih =>
    have h1 := h d List.mem_cons_self
    have h2 := ih fun x hx => h x (List.mem_cons_of_mem _ hx)
    simp only [PyData.depthAll]
    omega
theorem log_small {i : Int} (h : i.natAbs < 10 ^ 30) : PyData.weight (.int i) ≤ 101 := by
  unfold PyData.weight
  split
  · omega
  · rename_i hz
    have hz' : i.natAbs ≠ 0 := by simpa using hz
    have : i.natAbs.log2 < 100 := (Nat.log2_lt hz').mpr (Nat.lt_of_lt_of_le h (by decide +kernel))
    omega
/-- what repr shows without trouble -/
structure Fine (d : PyData) : Prop where
  leaf : leafOk d = true
  wt : d.weight ≤ 100000
  dp : d.depth ≤ 60
theorem Fine.len {d : PyData} (f : Fine d) : d.shown.length ≤ sizeLine := by
  have := PyData.shown_le 40 (by decide) d (leafOk_show d f.leaf).2
  have h := f.wt
  have : d.shown.length ≤ 42 * 100000 + 40 := by omega
  exact Nat.le_trans this (by decide)

/-! ### values that are data, a dict at the outside too -/
mutual
theorem dp_nodict {K : PySem.W.Frag} {H : Hp} : ∀ (d : PyData) (v : V), Dp K H v d → d.hasDict = false
  | .none, _, _ => rfl
  | .bool _, _, _ => rfl
  | .int _, _, _ => rfl
  | .str _, _, _ => rfl
  | .list ds, _, h => by
    cases h with
    | lst hs ha => simpa [PyData.hasDict] using dpAll_nodict ds _ ha
  | .tuple ds, _, h => by
    cases h with
    | tup hs ha => simpa [PyData.hasDict] using dpAll_nodict ds _ ha
  | .dict _, _, h => by cases h
theorem dpAll_nodict {K : PySem.W.Frag} {H : Hp} : ∀ (ds : List PyData) (vs : List V), DpAll K H vs ds → PyData.hasDictAll ds = false
  | [], _, _ => rfl
  | d :: ds, _, h => by
    cases h with
    | cons h1 h2 => simp [PyData.hasDictAll, dp_nodict d _ h1, dpAll_nodict ds _ h2]
end
def kD : Key → PyData
  | .inl i => .int i
  | .inr x => .str x
/-- the dict at a holds data -/
def DkAt (K : PySem.W.Frag) (H : Hp) (v : V) (d : PyData) : Prop :=
  ∃ a kvs ds, v = .ref a ∧ Rd H a (.dK kvs) ∧ DpAll K H (kvs.map (·.2)) ds ∧ d = .dict ((kvs.map fun p => kD p.1).zip ds)
def Dd (K : PySem.W.Frag) (H : Hp) (v : V) (d : PyData) : Prop := Dp K H v d ∨ DkAt K H v d

theorem dpAll_len {K : PySem.W.Frag} {H : Hp} : ∀ {vs : List V} {ds : List PyData}, DpAll K H vs ds → vs.length = ds.length
  | _, _, .nil => rfl
  | _, _, .cons _ h => by simp [dpAll_len h]
theorem kd_reads {h : Heap} {P : Program} {w : World} : ∀ {kvs : List (Key × V)} {vs : List (Key × Value)} {es : List DictEntry}, KV kvs vs → Pairs (mixKind P w) es vs →
    ReadsAll h (es.map (·.key)) (kvs.map fun p => kD p.1) [] ∧ Vals (kvs.map (·.2)) (es.map (·.val))
  | _, _, _, .nil, .nil => ⟨.nil, .nil⟩
  | _, _, _, .cons (a := p) r rs, .cons (e := e) hk hv hs => by
    obtain ⟨h1, h2⟩ := kd_reads (h := h) rs hs
    obtain ⟨r1, r2⟩ := r
    refine ⟨?_, ?_⟩
    · have : Reads h e.key (kD p.1) [] := by
        rcases keyIs_shape (show keyIs _ e.key = true from hk) with ⟨i, t, e1, e2⟩ | ⟨x, t, e1, e2⟩
        · rw [r1, e1, e2]; exact .int i t
        · rw [r1, e1, e2]; exact .str x t
      exact ReadsAll.cons (as := []) (bs := []) this h1
    · exact .cons (show L2.RelV p.2 e.val by rw [hv]; exact r2) h2
section
variable {X : Cx} {pins : List (Addr × Obj)} {σ : L2.St} {H : Hp} {s : Shared}
mutual
/-- no address of a list among what data without dicts reads is wanted: only that there is none of the registry where a dict stands outside -/
theorem dp_reads_off (I : Inv X pins σ H s) (hreg : ∀ o, s.heap.get? sysModules = some o → o.cls ≠ .type "list") : ∀ (d : PyData) (v : V) (u : Value), Dp X.K H v d → RelV v u → ∃ as, Reads s.heap u d as ∧ sysModules ∉ as
  | .none, _, _, h, r => by cases h; cases r; exact ⟨_, .none, by simp⟩
  | .bool b, _, _, h, r => by cases h; cases r; exact ⟨_, .bool b, by simp⟩
  | .int i, _, _, h, r => by cases h; obtain ⟨t, rfl⟩ := r; exact ⟨_, .int i t, by simp⟩
  | .str x, _, _, h, r => by cases h; obtain ⟨t, rfl⟩ := r; exact ⟨_, .str x t, by simp⟩
  | .list ds, _, _, h, r => by
    cases h with
    | lst hs ha =>
      cases r
      obtain ⟨its, rv, ⟨o, n, ho, hc, _, hd⟩, _⟩ := I.list hs
      obtain ⟨as, hr, hn⟩ := dpAll_reads_off I hreg ds _ its ha rv
      refine ⟨_, .list ho hc hd hr, fun z => ?_⟩
      rcases List.mem_cons.mp z with z | z
      · subst z; exact hreg _ ho hc
      · exact hn z
  | .tuple ds, _, _, h, r => by
    cases h with
    | tup hs ha =>
      cases r
      obtain ⟨its, rv, ⟨o, ho, hc, n, hd⟩, _⟩ := I.tuple hs
      obtain ⟨as, hr, hn⟩ := dpAll_reads_off I hreg ds _ its ha rv
      exact ⟨_, .tuple ho hc hd hr, hn⟩
  | .dict _, _, _, h, _ => by cases h
theorem dpAll_reads_off (I : Inv X pins σ H s) (hreg : ∀ o, s.heap.get? sysModules = some o → o.cls ≠ .type "list") : ∀ (ds : List PyData) (vs : List V) (us : List Value), DpAll X.K H vs ds → Vals vs us → ∃ as, ReadsAll s.heap us ds as ∧ sysModules ∉ as
  | [], _, _, h, r => by cases h; cases r; exact ⟨_, .nil, by simp⟩
  | d :: ds, _, _, h, r => by
    cases h with
    | cons h1 h2 =>
      cases r with
      | cons r1 r2 =>
        obtain ⟨as, q1, n1⟩ := dp_reads_off I hreg d _ _ h1 r1
        obtain ⟨bs, q2, n2⟩ := dpAll_reads_off I hreg ds _ _ h2 r2
        exact ⟨_, .cons q1 q2, fun z => by rcases List.mem_append.mp z with z | z; exact n1 z; exact n2 z⟩
end
end
def flatD : PyData → Bool
  | .none | .bool _ | .int _ | .str _ => true
  | _ => false
theorem flat_reads {h : Heap} {K : PySem.W.Frag} {H : Hp} : ∀ {vs : List V} {ds : List PyData} {us : List Value}, DpAll K H vs ds → Vals vs us → (∀ d ∈ ds, flatD d = true) → ReadsAll h us ds []
  | _, _, _, .nil, .nil, _ => .nil
  | _, _, _, .cons (d := d) h1 h2, .cons (b := u) r1 r2, hf => by
    have hd := hf d List.mem_cons_self
    have : Reads h u d [] := by
      cases h1 with
      | non => cases r1; exact .none
      | bl b => cases r1; exact .bool b
      | int i => obtain ⟨t, rfl⟩ := r1; exact .int i t
      | str x => obtain ⟨t, rfl⟩ := r1; exact .str x t
      | lst _ _ => simp [flatD] at hd
      | tup _ _ => simp [flatD] at hd
    exact ReadsAll.cons (as := []) (bs := []) this (flat_reads h2 r2 fun x hx => hf x (List.mem_cons_of_mem _ hx))
/-- what repr asks of its argument: data without dicts, or a dict of flat values -/
def rRepr (K : PySem.W.Frag) : List V → Hp → VK → Prop := fun xs H Q => ∃ x d, xs = [x] ∧ (Dp K H x d ∨ ∃ a kvs ds, x = .ref a ∧ Rd H a (.dK kvs) ∧ DpAll K H (kvs.map (·.2)) ds ∧ (∀ e ∈ ds, flatD e = true) ∧ d = .dict ((kvs.map fun p => kD p.1).zip ds)) ∧
  Fine d ∧ Q (.str d.shown) H
section
variable {X : Cx}
theorem call_repr (hg : X.A.guards = some []) (hu : X.A.units + 64 < cLine) : CallR X (.builtin "repr") (rRepr X.K) := by
  intro pins s σ H xs us Q I r h
  obtain ⟨x, d, rfl, hd, fine, q⟩ := h
  obtain ⟨u, rfl, rx⟩ := r.one
  have hs := (leafOk_show d fine.leaf).1
  have hz := fine.len
  have hdp := fine.dp
  have fin : ∀ h' t tk, (∀ b o, s.heap.get? b = some o → h'.get? b = some o) → EP X pins σ Q (.str d.shown t) { s with heap := h', toks := tk } := fun h' t tk hk => ⟨.str d.shown, H, I.kept hk, ⟨t, rfl⟩, q⟩
  have tail : ∀ a as, u = .ref a → Reads s.heap u d as → (d.hasDict = true → sysModules ∉ as) → wpAny (model X.prog X.w) X.A (call (.builtin "repr") [u]) (EP X pins σ Q) X.xe s := by
    rintro a as rfl rd hsm
    exact repr_of_reads' rd hs hsm hg (by omega) (fun _ _ e => e) fin hz
  rcases hd with hd | ⟨a, kvs, ds, rfl, hr, hv, hf, rfl⟩
  · have hn := dp_nodict d x hd
    obtain ⟨as, rd⟩ := Dp.reads I d x u hd rx
    have hsm : d.hasDict = true → sysModules ∉ as := fun z => by rw [hn] at z; cases z
    cases hd with
    | non => cases rx; exact PySem.P.repr_of_none (fin s.heap _ _ fun _ _ e => e)
    | bl b => cases rx; exact PySem.P.repr_of_bool (fin s.heap _ _ fun _ _ e => e)
    | int i =>
      obtain ⟨t, rfl⟩ := rx
      exact PySem.P.repr_of_int (by simpa [PyData.showable] using hs) (fin s.heap _ _ fun _ _ e => e)
    | str y =>
      obtain ⟨t, rfl⟩ := rx
      exact PySem.P.repr_of_str (fin s.heap _ _ fun _ _ e => e) (by simpa [PyData.shown] using hz)
    | lst _ _ => cases rx; exact tail _ _ rfl rd hsm
    | tup _ _ => cases rx; exact tail _ _ rfl rd hsm
  · cases rx
    obtain ⟨_, hsys, vs, kv, o, es, ep, ho, hex, hdat, _, hp, _⟩ := dk_rd I.hok hr
    obtain ⟨k1, k2⟩ := kd_reads (h := s.heap) kv hp
    have hlen : (kvs.map fun p => kD p.1).length = ds.length := by rw [List.length_map, ← dpAll_len hv, List.length_map]
    have e1 : ((kvs.map fun p => kD p.1).zip ds).map (·.1) = kvs.map fun p => kD p.1 := List.map_fst_zip (by omega)
    have e2 : ((kvs.map fun p => kD p.1).zip ds).map (·.2) = ds := List.map_snd_zip (by omega)
    refine tail a (a :: [] ++ []) rfl (Reads.dict ho hex.1 hdat (by rw [e1]; exact k1) (by rw [e2]; exact flat_reads hv k2 hf)) (fun _ => ?_)
    intro z
    have : sysModules = a := by simpa using z
    rw [this] at hsys
    simp at hsys
end

/-! ### powers of great ints -/
def CPowW (i j : Int) : Prop := 0 ≤ j ∧ (Builtin.Int.intBits i : Int) * j ≤ 2 ^ 27
theorem op_powW {X : Cx} : OpR X (binaryOp .Pow) (rI CPowW fun i j => .int (i ^ j.toNat)) := opI fun _ _ _ _ _ _ _ hc q => pow_int hc.1 hc.2 q
end Gd

set_option Elab.async false
set_option linter.all false
set_option maxRecDepth 100000
set_option maxHeartbeats 4000000
/-! the rules whose readings name the written part, with that part as a letter of its own (for the blocks of comprehensions) -/
namespace Gd
open PySem PySem.Spec PyProof.Rows L2
def rLenK (K : PySem.W.Frag) : List V → Hp → VK → Prop := fun xs H Q => ∃ p ys, xs = [.ref p] ∧ (SqL K H p ys ∨ SqT K H p ys) ∧ Q (.int ys.length) H
def rListK (K : PySem.W.Frag) : List V → Hp → VK → Prop := fun xs H Q => ∃ p ys, xs = [.ref p] ∧ (SqL K H p ys ∨ SqT K H p ys) ∧ ∀ l, H l = none → Q (.ref l) (upd H l (.lst ys))
def rTupK (K : PySem.W.Frag) : List V → Hp → VK → Prop := fun xs H Q => ∃ p ys, xs = [.ref p] ∧ ((SqL K H p ys ∧ ∀ l, H l = none → Q (.ref l) (upd H l (.tup ys))) ∨ (SqT K H p ys ∧ Q (.ref p) H))
section
variable {X : Cx} {K : PySem.W.Frag}
theorem k_len (h : X.K = K) : CallR X (.builtin "len") (rLenK K) := by subst h; exact call_len_seq
theorem k_list (h : X.K = K) : CallR X (.type "list") (rListK K) := by subst h; exact call_list_of
theorem k_tuple (h : X.K = K) : CallR X (.type "tuple") (rTupK K) := by subst h; exact call_tuple_of
theorem k_isi (h : X.K = K) : CallR X (.builtin "isinstance") (rIsi K) := by subst h; exact call_isi
theorem k_all (h : X.K = K) (hc : X.calm = true) : CallR X (.builtin "all") (rAll K) := by subst h; exact cr_all hc
theorem k_any (h : X.K = K) (hc : X.calm = true) : CallR X (.builtin "any") (rAny K) := by subst h; exact cr_any hc
theorem k_max (h : X.K = K) (hc : X.calm = true) : CallR X (.builtin "max") (rMax K) := by subst h; exact cr_max hc
theorem k_sum (h : X.K = K) (hc : X.calm = true) : CallR X (.builtin "sum") (rSum K) := by subst h; exact cr_sum hc
theorem k_repr (h : X.K = K) (hg : X.A.guards = some []) (hu : X.A.units + 64 < cLine) : CallR X (.builtin "repr") (rRepr K) := by subst h; exact call_repr hg hu
theorem kx_list (h : X.K = K) : IxR X (rIxL K) := by subst h; exact ix_list
theorem kx_tup (h : X.K = K) : IxR X (rIxT K) := by subst h; exact ix_tup
theorem kx_seq (h : X.K = K) : IxR X (rIx K) := by subst h; exact ix_seq
theorem ko_in (h : X.K = K) : OpR X (compareOp .In) (rIn K false) := by subst h; exact op_in_seq
theorem ko_notIn (h : X.K = K) : OpR X (compareOp .NotIn) (rIn K true) := by subst h; exact op_notIn_seq
theorem ko_eqD (h : X.K = K) (hu : X.A.units + 64 < cLine) : OpR X (compareOp .Eq) (rEqD K) := by subst h; exact op_eqD hu
theorem ko_neD (h : X.K = K) (hu : X.A.units + 64 < cLine) : OpR X (compareOp .NotEq) (rNeD K) := by subst h; exact op_neD hu
theorem kg_tup {elts : List Expr} {kk : Nat} {pos : Pos} {t : TGs} (h : X.K = K) (hp : PG X (.Tuple elts kk pos) (gTup X.K elts.length t)) : PG X (.Tuple elts kk pos) (gTup K elts.length t) := by subst h; exact hp
theorem ki {tg iter : Expr} {f : PySem.W.Frag → TI} (h : X.K = K) (hp : PI X tg iter (f X.K)) : PI X tg iter (f K) := by subst h; exact hp
theorem kb_m {T : String} {name : Str} {o e : Expr} {es : List Expr} {apos cpos : Pos} {r : V → List V → Hp → VK → Prop} {to : TE} {t : TA} (h : X.K = K)
    (hp : PE X (.Call (.Attribute o name apos) (e :: es) [] cpos) (tBM X.K T r to t)) : PE X (.Call (.Attribute o name apos) (e :: es) [] cpos) (tBM K T r to t) := by subst h; exact hp
end
/-- a loop over enumerate of a list that stays -/
theorem for_enum {K : PySem.W.Frag} {a : Addr} {xs : List V} {g : TG} {tb : TS} {D : Ends} {σ : L2.St} {H : Hp} (Pv : Nat → L2.St → Hp → Prop) (h0 : Pv 0 σ H) (hq : ∀ i σ H, Pv i σ H → SqL K H a xs)
    (hs : ∀ (i : Nat) (x : V) (T : Addr) (σ : L2.St) (H : Hp), xs[i]? = some x → Pv i σ H → H T = none →
      g (.ref T) σ (upd H T (.tup [.int (i : Nat), x])) fun σ2 H2 => tb { D with nx := Pv (i + 1), ct := Pv (i + 1), bk := D.nx } σ2 H2) (hd : ∀ σ H, Pv xs.length σ H → D.nx σ H) :
    ∃ W : Nat → Nat → L2.St → Hp → Prop, (∃ m, W 0 m σ H) ∧ ∀ i m σ H, W i m σ H →
      ((Ite K a).stop i H ∧ D.nx σ H) ∨ ((Ite K a).go i H ∧ ∃ N : L2.St → Hp → Prop, (∀ σ' H', N σ' H' → ∃ m', m' < m ∧ W (i + 1) m' σ' H') ∧
        ∀ v H', (Ite K a).yld i H v H' → g v σ H' fun σ2 H2 => tb { D with nx := N, ct := N, bk := D.nx } σ2 H2) := by
  refine ⟨fun i m σ H => m + i = xs.length ∧ Pv i σ H, ⟨xs.length, rfl, h0⟩, fun i m σ H hw => ?_⟩
  obtain ⟨hm, p⟩ := hw
  have q := hq i σ H p
  by_cases hlt : i < xs.length
  · have hx : xs[i]? = some xs[i] := List.getElem?_eq_getElem hlt
    refine Or.inr ⟨⟨xs, _, q, hx⟩, Pv (i + 1), fun σ' H' p' => ⟨m - 1, by omega, by omega, p'⟩, fun v H' y => ?_⟩
    obtain ⟨T, x', rfl, hT, rfl, f1⟩ := y
    exact hs i x' T σ H (f1 xs q) p hT
  · have e : i = xs.length := by omega
    subst e
    exact Or.inl ⟨⟨xs, q, Nat.le_refl _⟩, hd σ H p⟩
end Gd

set_option Elab.async false
set_option linter.all false
set_option maxRecDepth 100000
set_option maxHeartbeats 4000000
/-! three comparisons in a chain; zip of three tuples; comprehensions over a text -/
namespace Gd
open PySem PySem.Spec PyProof.Rows L2
section
variable {X : Cx} {a b c d : Expr} {ta tb tc td : TE} {pos : Pos}
def tT3 (r r' r'' : R2) (ta tb tc td : TE) : TT := fun σ H Q => ta σ H fun x H1 => tb σ H1 fun y H2 => r x y H2 fun z H3 => ∃ k, z = .bl k ∧ (if k = true then
  tc σ H3 fun u H4 => r' y u H4 fun z' H5 => ∃ k', z' = .bl k' ∧ (if k' = true then td σ H5 fun v H6 => r'' u v H6 fun z'' H7 => ∃ k'', z'' = .bl k'' ∧ Q k'' H7 else Q false H5) else Q false H3)
theorem pt_chain3 {op op' op'' : CmpOp} {r r' r'' : R2} (ho : OpR X (compareOp op) r) (ho' : OpR X (compareOp op') r') (ho'' : OpR X (compareOp op'') r'') (ha : PE X a ta) (hb : PE X b tb) (hc : PE X c tc) (hd : PE X d td)
    (hm : lastMarks [op, op', op''] [b, c, d] = false := by with_unfolding_all rfl) : PT X (.Compare a [op, op', op''] [b, c, d] pos) (tT3 r r' r'' ta tb tc td) := by
  refine ⟨fun pins s σ H Q I h => ?_⟩
  refine isTrue_chain (thn (ha.run pins s σ H _ I h) fun v s1 hv => ?_) hm
  obtain ⟨x, H1, I1, r1, q1⟩ := hv
  refine test_link (thn (hb.run pins s1 σ H1 _ I1 q1) fun u s2 hu => ?_)
  obtain ⟨y, H2, I2, r2, q2⟩ := hu
  refine thn (ho pins s2 σ H2 x y v u _ I2 r1 r2 q2) fun e s3 he => ?_
  obtain ⟨z, H3, I3, r3, k, ez, q3⟩ := he
  subst ez
  cases r3
  refine wpAny_truthy_bool ?_
  cases k with
  | false => exact ite_ff ⟨H3, I3, q3⟩
  | true =>
    refine ite_tt ?_
    refine test_link (thn (hc.run pins s3 σ H3 _ I3 q3) fun u4 s4 hu4 => ?_)
    obtain ⟨y4, H4, I4, r4, q4⟩ := hu4
    refine thn (ho' pins s4 σ H4 y y4 u u4 _ I4 r2 r4 q4) fun e5 s5 he5 => ?_
    obtain ⟨z5, H5, I5, r5, k5, e5', q5⟩ := he5
    subst e5'
    cases r5
    refine wpAny_truthy_bool ?_
    cases k5 with
    | false => exact ite_ff ⟨H5, I5, q5⟩
    | true =>
      refine ite_tt (test_last (thn (hd.run pins s5 σ H5 _ I5 q5) fun u6 s6 hu6 => ?_))
      obtain ⟨y6, H6, I6, r6, q6⟩ := hu6
      refine thn (ho'' pins s6 σ H6 y4 y6 u4 u6 _ I6 r4 r6 q6) fun e7 s7 he7 => ?_
      obtain ⟨z7, H7, I7, r7, k7, e7', q7⟩ := he7
      subst e7'
      cases r7
      exact wpAny_truthy_bool ⟨H7, I7, q7⟩
end

/-! ### zip of three tuples of one length -/
def Itz3 (K : PySem.W.Frag) (a b c : Addr) : It :=
  ⟨fun i H => ∃ (xs ys zs : List V), SqT K H a xs ∧ SqT K H b ys ∧ SqT K H c zs ∧ xs.length = ys.length ∧ ys.length = zs.length ∧ i < xs.length,
    fun i H v H' => ∃ T x y z, v = .ref T ∧ H T = none ∧ H' = upd H T (.tup [x, y, z]) ∧ (∀ xs, SqT K H a xs → xs[i]? = some x) ∧ (∀ ys, SqT K H b ys → ys[i]? = some y) ∧ ∀ zs, SqT K H c zs → zs[i]? = some z,
    fun i H => ∃ (xs ys zs : List V), SqT K H a xs ∧ SqT K H b ys ∧ SqT K H c zs ∧ xs.length = ys.length ∧ ys.length = zs.length ∧ i = xs.length⟩
def Zst (z TI TO i1 i2 i3 a b c : Addr) (i : Nat) (h : Heap) : Prop :=
  IsZip h z TI TO .none ∧ IsTupOf3 h TI (.ref i1) (.ref i2) (.ref i3) ∧ (∃ a1 a2 a3, IsTupOf3 h TO a1 a2 a3) ∧ h.IsTupleIter i1 a i ∧ h.IsTupleIter i2 b i ∧ h.IsTupleIter i3 c i
theorem turn_zip3 {P : Program} {w : World} {K : PySem.W.Frag} {elts : List Expr} {kk : Nat} {tpos : Pos} {a b c z TI TO i1 i2 i3 : Addr} (D : ZipSep3 z TI TO i1 i2 i3 [i1, a] [i2, b] [i3, c]) (n1 : a ≠ i1) (n2 : b ≠ i2) (n3 : c ≠ i3) :
    Turn P w K (.Tuple elts kk tpos) (Itz3 K a b c) [z, TI, TO, i1, i2, i3] z (Zst z TI TO i1 i2 i3 a b c) where
  mem := by simp
  obj := fun i h st x hx => by
    obtain ⟨hz, hTI, ⟨_, _, _, hTO⟩, ⟨o1, e1, _, d1⟩, ⟨o2, e2, _, d2⟩, ⟨o3, e3, _, d3⟩⟩ := st
    have hx' : x = z ∨ x = TI ∨ x = TO ∨ x = i1 ∨ x = i2 ∨ x = i3 := by simpa using hx
    rcases hx' with q | q | q | q | q | q <;> subst q
    · exact ⟨_, hz, fun v q => nomatch q⟩
    · exact ⟨_, hTI, fun v q => nomatch q⟩
    · exact ⟨_, hTO, fun v q => nomatch q⟩
    · exact ⟨o1, e1, fun v q => by rw [d1] at q; cases q⟩
    · exact ⟨o2, e2, fun v q => by rw [d2] at q; cases q⟩
    · exact ⟨o3, e3, fun v q => by rw [d3] at q; cases q⟩
  keep := fun i h h' st k => by
    obtain ⟨hz, hTI, ⟨u1, u2, u3, hTO⟩, h1, h2, h3⟩ := st
    exact ⟨k z (by simp) _ hz, k TI (by simp) _ hTI, ⟨u1, u2, u3, k TO (by simp) _ hTO⟩, h1.at fun o q => k i1 (by simp) o q, h2.at fun o q => k i2 (by simp) o q, h3.at fun o q => k i3 (by simp) o q⟩
  item := by
    intro X hP hw hK hc i pins s σ H E I hf st hg
    subst hP hw hK
    obtain ⟨hz, hTI, hTO, h1, h2, h3⟩ := id st
    obtain ⟨xs, ys, zs, qx, qy, qz, l1, l2, hi⟩ := hg
    obtain ⟨its1, rv1, p1, _⟩ := I.tuple qx
    obtain ⟨its2, rv2, p2, _⟩ := I.tuple qy
    obtain ⟨its3, rv3, p3, _⟩ := I.tuple qz
    have m1 := rv1.length
    have m2 := rv2.length
    have m3 := rv3.length
    have hh : X.A.in1.handled = none := I.ok.hd hc
    have W := GoesN.zip3 (prog := X.prog) (w := X.w) (A := X.A) (elts := elts) (x1 := kk) (pos := tpos) D (Draws.tuple hh i1 a n1 its1.toArray) (Draws.tuple hh i2 b n2 its2.toArray) (Draws.tuple hh i3 c n3 its3.toArray)
    have hn : i < min (min its1.toArray.size its2.toArray.size) its3.toArray.size := by
      rw [List.size_toArray, List.size_toArray, List.size_toArray]; omega
    refine W.goes i s _ E hn ⟨hz, hTI, hTO, ⟨h1, p1⟩, ⟨h2, p2⟩, ⟨h3, p3⟩⟩ fun v h' tk hY st' hk _ => ?_
    obtain ⟨T, u1, u2, u3, rfl, hTn, g1, g2, g3, oT, eT, cT, nT, dT⟩ := hY
    obtain ⟨x, hx⟩ : ∃ x, xs[i]? = some x := ⟨_, List.getElem?_eq_getElem hi⟩
    obtain ⟨y, hy⟩ : ∃ y, ys[i]? = some y := ⟨_, List.getElem?_eq_getElem (by omega)⟩
    obtain ⟨u, hu⟩ : ∃ u, zs[i]? = some u := ⟨_, List.getElem?_eq_getElem (by omega)⟩
    obtain ⟨v1, e1, r1⟩ := rv1.get hx
    obtain ⟨v2, e2, r2⟩ := rv2.get hy
    obtain ⟨v3, e3, r3⟩ := rv3.get hu
    have f1 : v1 = u1 := by simp at g1; rw [g1] at e1; exact (Option.some.inj e1).symm
    have f2 : v2 = u2 := by simp at g2; rw [g2] at e2; exact (Option.some.inj e2).symm
    have f3 : v3 = u3 := by simp at g3; rw [g3] at e3; exact (Option.some.inj e3).symm
    subst f1 f2 f3
    have new : ObjOk X.prog X.w (upd H T (.tup [x, y, u])) h' T (.tup [x, y, u]) := ⟨by show 3 ≤ sizeLine; decide, [v1, v2, v3], .cons r1 (.cons r2 (.cons r3 .nil)), oT, eT, cT, nT, dT⟩
    have J := I.turnedNew (t' := tk) (ch := [z, TI, TO, i1, i2, i3]) (h' := h') (fun q o hb e => hk q o (fun hm => hb (by simp at hm ⊢; rcases hm with r | r | r | r | r <;> simp [r])) e) hf hTn new
    obtain ⟨z', TI', TO', ⟨k1, _⟩, ⟨k2, _⟩, ⟨k3, _⟩⟩ := st'
    refine ⟨.ref T, _, J, rfl, ⟨T, x, y, u, rfl, I.hok.fresh hTn, rfl, fun l hl => by rw [I.tuple_inj hl qx]; exact hx, fun l hl => by rw [I.tuple_inj hl qy]; exact hy, fun l hl => by rw [I.tuple_inj hl qz]; exact hu⟩, ⟨z', TI', TO', k1, k2, k3⟩, fun q hq => ?_⟩
    obtain ⟨oq, eq, _⟩ := (show ∀ q ∈ [z, TI, TO, i1, i2, i3], ∃ o, s.heap.get? q = some o ∧ True from fun q hq => by
      obtain ⟨o1, e1, _⟩ := h1
      obtain ⟨o2, e2, _⟩ := h2
      obtain ⟨o3, e3, _⟩ := h3
      obtain ⟨_, _, _, hTO⟩ := hTO
      have hq' : q = z ∨ q = TI ∨ q = TO ∨ q = i1 ∨ q = i2 ∨ q = i3 := by simpa using hq
      rcases hq' with r | r | r | r | r | r <;> subst r
      · exact ⟨_, hz, trivial⟩
      · exact ⟨_, hTI, trivial⟩
      · exact ⟨_, hTO, trivial⟩
      · exact ⟨_, e1, trivial⟩
      · exact ⟨_, e2, trivial⟩
      · exact ⟨_, e3, trivial⟩) q hq
    rw [upd_ne (Nat.ne_of_lt (Nat.lt_of_lt_of_le (Heap.lt_size eq) hTn))]
    exact (hf q hq).1
  done := by
    intro X hP hw hK hc i pins s σ H E I hf st hg
    subst hP hw hK
    obtain ⟨hz, hTI, hTO, h1, h2, h3⟩ := id st
    obtain ⟨xs, ys, zs, qx, qy, qz, l1, l2, rfl⟩ := hg
    obtain ⟨its1, rv1, p1, _⟩ := I.tuple qx
    obtain ⟨its2, rv2, p2, _⟩ := I.tuple qy
    obtain ⟨its3, rv3, p3, _⟩ := I.tuple qz
    have m1 := rv1.length
    have m2 := rv2.length
    have m3 := rv3.length
    have hh : X.A.in1.handled = none := I.ok.hd hc
    have W := GoesN.zip3 (prog := X.prog) (w := X.w) (A := X.A) (elts := elts) (x1 := kk) (pos := tpos) D (Draws.tuple hh i1 a n1 its1.toArray) (Draws.tuple hh i2 b n2 its2.toArray) (Draws.tuple hh i3 c n3 its3.toArray)
    have hn : xs.length = min (min its1.toArray.size its2.toArray.size) its3.toArray.size := by
      rw [List.size_toArray, List.size_toArray, List.size_toArray]; omega
    rw [hn] at h1 h2 h3
    exact W.stops s _ E ⟨hz, hTI, hTO, ⟨h1, p1⟩, ⟨h2, p2⟩, ⟨h3, p3⟩⟩ fun h' tk hk _ =>
      I.turnedL (t' := tk) (ch := [z, TI, TO, i1, i2, i3]) (h' := h') (fun q o hb e => hk q o (fun hm => hb (by simp at hm ⊢; rcases hm with r | r | r | r | r <;> simp [r])) e) hf
  self := fun A i s Q E st h => wpAny_pyIter_zip st.1 h
def iZip3 (K : PySem.W.Frag) (ta : TA) : TI := fun σ H R => ta σ H fun vs H1 => ∃ a b c xs ys zs, vs = [.ref a, .ref b, .ref c] ∧ SqT K H1 a xs ∧ SqT K H1 b ys ∧ SqT K H1 c zs ∧ R (Itz3 K a b c) H1
theorem pi_zip3 {X : Cx} {e e2 e3 : Expr} {ta : TA} {p pos tpos : Pos} {elts : List Expr} {kk : Nat} (hg : Gl X "zip") (hm : X.mg "zip" = none) (ha : PA X [e, e2, e3] ta)
    (hs : starEach [e, e2, e3] X.env = (false, eval e X.env) :: starEach [e2, e3] X.env := by rfl) (hpl : (backTo pos (starEach [e2, e3] X.env)).any (·.1) = false := by rfl) :
    PI X (.Tuple elts kk tpos) (.Call (.Name "zip" p) [e, e2, e3] [] pos) (iZip3 X.K ta) := by
  refine ⟨fun pins s σ H R I h => ?_⟩
  refine Call_ (ld_blt I hg hm PyProof.Rows.boot_zip (PyProof.Rows.callWith_type1 (thn (ha.run pos pins s σ H _ I h) fun us s1 hz => ?_) hs hpl))
  obtain ⟨vs, H1, I1, r1, a, b, c, xs, ys, zs, rfl, qx, qy, qz, q⟩ := hz
  cases r1 with
  | cons ra r1 =>
    cases r1 with
    | cons rb r1 =>
      cases r1 with
      | cons rc r1 =>
        cases r1
        cases ra
        cases rb
        cases rc
        obtain ⟨its1, _, p1, _⟩ := I1.tuple qx
        obtain ⟨its2, _, p2, _⟩ := I1.tuple qy
        obtain ⟨its3, _, p3, _⟩ := I1.tuple qz
        obtain ⟨o1, ho1, _⟩ := id p1
        obtain ⟨o2, ho2, _⟩ := id p2
        obtain ⟨o3, ho3, _⟩ := id p3
        refine zip_begins3 (begins_tuple a its1.toArray) (begins_tuple b its2.toArray) (begins_tuple c its3.toArray) p1 p2 p3 fun h' hz hTI hTO g1 g2 g3 hsz hk => wpAny_pyIter_zip hz ?_
        have I2 : Inv X pins σ H1 { s1 with heap := h' } := I1.kept (t' := s1.toks) hk
        have S := zip_sep3 (N := s1.heap.objs.size) (fp1 := [a]) (fp2 := [b]) (fp3 := [c]) (fun x hx => by rw [List.mem_singleton.mp hx]; exact Heap.lt_size ho1) (fun x hx => by rw [List.mem_singleton.mp hx]; exact Heap.lt_size ho2) (fun x hx => by rw [List.mem_singleton.mp hx]; exact Heap.lt_size ho3)
        have lt1 := Heap.lt_size ho1
        have lt2 := Heap.lt_size ho2
        have lt3 := Heap.lt_size ho3
        refine ⟨s1.heap.objs.size + 5, [s1.heap.objs.size + 5, s1.heap.objs.size + 3, s1.heap.objs.size + 4, s1.heap.objs.size, s1.heap.objs.size + 1, s1.heap.objs.size + 2], _, _, H1, rfl, I2,
          turn_zip3 S (Nat.ne_of_lt lt1) (Nat.ne_of_lt (Nat.lt_succ_of_lt lt2)) (Nat.ne_of_lt (Nat.lt_succ_of_lt (Nat.lt_succ_of_lt lt3))), ⟨hz, hTI, ⟨_, _, _, hTO⟩, ⟨_, g1, rfl, rfl⟩, ⟨_, g2, rfl, rfl⟩, ⟨_, g3, rfl, rfl⟩⟩, fun q hq => ?_, q⟩
        have hle : s1.heap.objs.size ≤ q := by
          have hq' : q = s1.heap.objs.size + 5 ∨ q = s1.heap.objs.size + 3 ∨ q = s1.heap.objs.size + 4 ∨ q = s1.heap.objs.size ∨ q = s1.heap.objs.size + 1 ∨ q = s1.heap.objs.size + 2 := by simpa using hq
          rcases hq' with r | r | r | r | r | r <;> rw [r]
          all_goals first | exact Nat.le_refl _ | exact Nat.le_add_right _ _
        exact I1.fpOk hle (I1.hok.fresh hle)
theorem for_zip3 {K : PySem.W.Frag} {a b c : Addr} {xs ys zs : List V} {g : TG} {tb : TS} {D : Ends} {σ : L2.St} {H : Hp} (l1 : xs.length = ys.length) (l2 : ys.length = zs.length) (Pv : Nat → L2.St → Hp → Prop) (h0 : Pv 0 σ H)
    (hq : ∀ i σ H, Pv i σ H → SqT K H a xs ∧ SqT K H b ys ∧ SqT K H c zs)
    (hs : ∀ (i : Nat) (x y z : V) (T : Addr) (σ : L2.St) (H : Hp), xs[i]? = some x → ys[i]? = some y → zs[i]? = some z → Pv i σ H → H T = none →
      g (.ref T) σ (upd H T (.tup [x, y, z])) fun σ2 H2 => tb { D with nx := Pv (i + 1), ct := Pv (i + 1), bk := D.nx } σ2 H2) (hd : ∀ σ H, Pv xs.length σ H → D.nx σ H) :
    ∃ W : Nat → Nat → L2.St → Hp → Prop, (∃ m, W 0 m σ H) ∧ ∀ i m σ H, W i m σ H →
      ((Itz3 K a b c).stop i H ∧ D.nx σ H) ∨ ((Itz3 K a b c).go i H ∧ ∃ N : L2.St → Hp → Prop, (∀ σ' H', N σ' H' → ∃ m', m' < m ∧ W (i + 1) m' σ' H') ∧
        ∀ v H', (Itz3 K a b c).yld i H v H' → g v σ H' fun σ2 H2 => tb { D with nx := N, ct := N, bk := D.nx } σ2 H2) := by
  refine ⟨fun i m σ H => m + i = xs.length ∧ Pv i σ H, ⟨xs.length, rfl, h0⟩, fun i m σ H hw => ?_⟩
  obtain ⟨hm, p⟩ := hw
  obtain ⟨q1, q2, q3⟩ := hq i σ H p
  by_cases hlt : i < xs.length
  · refine Or.inr ⟨⟨xs, ys, zs, q1, q2, q3, l1, l2, hlt⟩, Pv (i + 1), fun σ' H' p' => ⟨m - 1, by omega, by omega, p'⟩, fun v H' y => ?_⟩
    obtain ⟨T, x', y', z', rfl, hT, rfl, f1, f2, f3⟩ := y
    exact hs i x' y' z' T σ H (f1 xs q1) (f2 ys q2) (f3 zs q3) p hT
  · have e : i = xs.length := by omega
    subst e
    exact Or.inl ⟨⟨xs, ys, zs, q1, q2, q3, l1, l2, rfl⟩, hd σ H p⟩
/-- a comprehension over a text's signs -/
theorem lc_str {x : Str} {g : TG} {tt : TT} {te : TE} {vs : List Nat} {σ : L2.St} {H1 : Hp} {D : Addr} {Qd : Hp → Prop} (Pv : Nat → Hp → Prop) (h0 : Pv 0 (upd H1 D (.lst [])))
    (hs : ∀ i c H, x.cps[i]? = some c → Pv i H → g (.str ⟨#[c]⟩) (wipe σ vs) H fun σ2 H2 => wipe σ2 vs = wipe σ vs ∧ tt σ2 H2 fun b H3 =>
      if b = true then te σ2 H3 fun y H4 => ∃ acc, H4 D = some (.lst acc) ∧ acc.length < sizeLine ∧ Pv (i + 1) (upd H4 D (.lst (acc ++ [y]))) else Pv (i + 1) H3) (hd : ∀ H, Pv x.cps.size H → Qd H) :
    ∃ W : Nat → Nat → Hp → Prop, (∃ m, W 0 m (upd H1 D (.lst []))) ∧ ∀ i m H, W i m H →
      ((Its x).stop i H ∧ Qd H) ∨ ((Its x).go i H ∧ ∃ Nx : Hp → Prop, (∀ H', Nx H' → ∃ m', m' < m ∧ W (i + 1) m' H') ∧ ∀ v H', (Its x).yld i H v H' → g v (wipe σ vs) H' fun σ2 H2 => wipe σ2 vs = wipe σ vs ∧ tt σ2 H2 fun b H3 =>
        if b = true then te σ2 H3 fun y H4 => ∃ acc, H4 D = some (.lst acc) ∧ acc.length < sizeLine ∧ Nx (upd H4 D (.lst (acc ++ [y]))) else Nx H3) := by
  refine ⟨fun i m H => m + i = x.cps.size ∧ Pv i H, ⟨x.cps.size, rfl, h0⟩, fun i m H hw => ?_⟩
  obtain ⟨hm, p⟩ := hw
  by_cases hlt : i < x.cps.size
  · refine Or.inr ⟨hlt, Pv (i + 1), fun H' p' => ⟨m - 1, by omega, by omega, p'⟩, fun v H' y => ?_⟩
    obtain ⟨rfl, c, hc, rfl⟩ := y
    exact hs i c _ hc p
  · have e : i = x.cps.size := by omega
    subst e
    exact Or.inl ⟨Nat.le_refl _, hd H p⟩
end Gd

set_option Elab.async false
set_option linter.all false
set_option maxRecDepth 100000
set_option maxHeartbeats 4000000
/-! sorted of a list or a tuple of tuples whose places are ints and texts, the first one an int -/
namespace Gd
open PySem PySem.Spec PyProof.Rows L2

/-! ### the order -/
def kLt : Key → Key → Bool
  | .inl a, .inl b => decide (a < b)
  | .inr a, .inr b => decide (a.cps.toList < b.cps.toList)
  | .inl _, .inr _ => true
  | .inr _, .inl _ => false
theorem kLt_no (a : Key) : kLt a a = false := by
  cases a with
  | inl a => exact decide_eq_false (Int.lt_irrefl a)
  | inr a => exact decide_eq_false (List.lt_irrefl _)
theorem kLt_tr {a b c : Key} (h : kLt a b = true) (h2 : kLt b c = true) : kLt a c = true := by
  cases a <;> cases b <;> cases c <;> simp only [kLt, decide_eq_true_eq] at h h2 ⊢ <;> first | trivial | omega | exact List.lt_trans h h2 | exact absurd h (by simp) | exact absurd h2 (by simp) | skip
theorem str_eq {x y : Str} (h : x.cps.toList = y.cps.toList) : x = y := by
  cases x; cases y
  exact congrArg Str.mk (Array.toList_inj.mp h)
theorem list_tri : ∀ {x y : List Nat}, ¬ x < y → x ≠ y → y < x
  | [], [], _, h => absurd rfl h
  | [], b :: y, h, _ => absurd (List.nil_lt_cons b y) h
  | a :: x, [], _, _ => List.nil_lt_cons a x
  | a :: x, b :: y, h, n => by
    rw [List.cons_lt_cons_iff] at h ⊢
    rcases Nat.lt_trichotomy a b with z | z | z
    · exact absurd (Or.inl z) h
    · subst z
      exact Or.inr ⟨rfl, list_tri (fun q => h (Or.inr ⟨rfl, q⟩)) (fun q => n (by rw [q]))⟩
    · exact Or.inl z
theorem kLt_tri {a b : Key} (n : a ≠ b) (h : kLt a b = false) : kLt b a = true := by
  cases a with
  | inl a =>
    cases b with
    | inl b =>
      have h' := of_decide_eq_false h
      have : a ≠ b := fun z => n (by rw [z])
      exact decide_eq_true (by omega)
    | inr b => exact absurd h (by simp [kLt])
  | inr a =>
    cases b with
    | inl b => rfl
    | inr b => exact decide_eq_true (list_tri (of_decide_eq_false h) fun z => n (by rw [str_eq z]))
def lLt : List Key → List Key → Bool
  | [], [] => false
  | [], _ :: _ => true
  | _ :: _, [] => false
  | a :: x, b :: y => if a = b then lLt x y else kLt a b
theorem lLt_no : ∀ x : List Key, lLt x x = false
  | [] => rfl
  | a :: x => by unfold lLt; rw [if_pos rfl]; exact lLt_no x
theorem lLt_tri : ∀ {x y : List Key}, x ≠ y → lLt x y = false → lLt y x = true
  | [], [], n, _ => absurd rfl n
  | [], _ :: _, _, h => by simp [lLt] at h
  | _ :: _, [], _, _ => rfl
  | a :: x, b :: y, n, h => by
    unfold lLt at h ⊢
    by_cases e : a = b
    · subst e
      rw [if_pos rfl] at h ⊢
      exact lLt_tri (fun z => n (by rw [z])) h
    · rw [if_neg e] at h
      rw [if_neg (fun z => e z.symm)]
      exact kLt_tri e h
theorem lLt_tr : ∀ {x y z : List Key}, lLt x y = true → lLt y z = true → lLt x z = true
  | [], [], _, h, _ => by simp [lLt] at h
  | [], _ :: _, [], _, h => by simp [lLt] at h
  | [], _ :: _, _ :: _, _, _ => rfl
  | _ :: _, [], _, h, _ => by simp [lLt] at h
  | _ :: _, _ :: _, [], _, h => by simp [lLt] at h
  | a :: x, b :: y, c :: z, h, h2 => by
    unfold lLt at h h2 ⊢
    by_cases e : a = b
    · subst e
      rw [if_pos rfl] at h
      by_cases e2 : a = c
      · rw [if_pos e2] at h2 ⊢
        exact lLt_tr h h2
      · rw [if_neg e2] at h2 ⊢
        exact h2
    · rw [if_neg e] at h
      by_cases e2 : b = c
      · subst e2
        rw [if_neg e]
        exact h
      · rw [if_neg e2] at h2
        have h3 := kLt_tr h h2
        by_cases e3 : a = c
        · subst e3
          rw [kLt_no] at h3
          cases h3
        · rw [if_neg e3]
          exact h3
theorem lLt_as {x y : List Key} (h : lLt x y = true) : lLt y x = false := by
  cases q : lLt y x with
  | false => rfl
  | true =>
    have := lLt_tr h q
    rw [lLt_no] at this
    cases this
theorem swo_l {α : Type} (k : α → List Key) : SrtO.Swo fun x y => lLt (k x) (k y) := by
  refine ⟨fun x y h => lLt_as h, fun x y z h1 h2 => ?_⟩
  cases q : lLt (k z) (k x) with
  | false => rfl
  | true =>
    by_cases e1 : k y = k x
    · rw [← e1, h2] at q; cases q
    · have a1 := lLt_tri e1 h1
      by_cases e2 : k z = k y
      · rw [e2, h1] at q; cases q
      · have a2 := lLt_tri e2 h2
        have a3 := lLt_tr a1 a2
        rw [lLt_as a3] at q
        cases q

/-! ### the machine's comparison -/
section
variable {prog : Program} {w : World} {A : Around} {s : Shared}
def tyK : Key → Bool
  | .inl _ => true
  | .inr _ => false
theorem kat_keys : ∀ {ks ls : List Key} {us ws : List Value} {i : Nat}, Vals (ks.map kV) us → Vals (ls.map kV) ws → ks.map tyK = ls.map tyK → (i = 0 → ∀ k ∈ ks.head?, tyK k = true) →
    PySem.W.KatLex prog w A true false (fun r s' => s' = s ∧ r = lLt ks ls) (us.zip ws) i s
  | [], [], _, _, _, .nil, .nil, _, _ => PySem.W.kat_nil ⟨rfl, rfl⟩
  | [], _ :: _, _, _, _, _, _, h, _ => by simp at h
  | _ :: _, [], _, _, _, _, _, h, _ => by simp at h
  | a :: ks, b :: ls, _, _, i, .cons (b := u) ra rs, .cons (b := v) rb rt, h, hi => by
    simp only [List.map_cons, List.cons.injEq] at h
    have tail : a = b → PySem.W.KatLex prog w A true false (fun r s' => s' = s ∧ r = lLt (a :: ks) (b :: ls)) _ (i + 1) s := fun e => by
      have e2 : lLt (a :: ks) (b :: ls) = lLt ks ls := show (if a = b then lLt ks ls else kLt a b) = lLt ks ls from if_pos e
      rw [e2]
      exact kat_keys rs rt h.2 (fun z => by omega)
    have other : ¬ a = b → lLt (a :: ks) (b :: ls) = kLt a b := fun e => show (if a = b then lLt ks ls else kLt a b) = kLt a b from if_neg e
    cases a with
    | inl x =>
      cases b with
      | inr _ => exact absurd h.1 (by simp [tyK])
      | inl y =>
        obtain ⟨t, rfl⟩ := ra
        obtain ⟨t', rfl⟩ := rb
        refine PySem.W.kat_cons (SeqAt.EqAt.int_int x t y t' prog w _ _ ?_)
        refine PySem.W.kat_go (fun e1 => ?_) (fun e1 => ?_)
        · have ex : x = y := by simpa using e1
          exact PySem.W.kat_yes (tail (by rw [ex]))
        · have ex : ¬ x = y := by simpa using e1
          have e3 := other (fun z => ex (Sum.inl.inj z))
          refine PySem.W.kat_no ?_
          cases hc : (true && i == 0) with
          | true => exact oneLt_int ⟨rfl, e3.symm⟩
          | false => exact PySem.W.kat_one _ _ (PyProof.Rows.lt_int (Q := PySem.W.BoolBack _) ⟨rfl, e3.symm⟩)
    | inr x =>
      cases b with
      | inl _ => exact absurd h.1 (by simp [tyK])
      | inr y =>
        obtain ⟨t, rfl⟩ := ra
        obtain ⟨t', rfl⟩ := rb
        refine PySem.W.kat_cons (SeqAt.EqAt.str_str x t y t' prog w _ _ ?_)
        refine PySem.W.kat_go (fun e1 => ?_) (fun e1 => ?_)
        · have ex : x = y := by simpa using e1
          exact PySem.W.kat_yes (tail (by rw [ex]))
        · have ex : ¬ x = y := by simpa using e1
          have e3 := other (fun z => ex (Sum.inr.inj z))
          have h0 : ¬ i = 0 := fun z => by
            have := hi z (.inr x) rfl
            simp [tyK] at this
          refine PySem.W.kat_no ?_
          have hc : (true && i == 0) = false := by simpa using h0
          rw [hc]
          exact PySem.W.kat_one _ _ (PyProof.Rows.lt_str (Q := PySem.W.BoolBack _) ⟨rfl, e3.symm⟩)
/-- v is a tuple of these keys -/
def TupAt (h : Heap) (v : Value) (ks : List Key) : Prop := ∃ a o us n, v = .ref a ∧ h.get? a = some o ∧ o.cls = .type "tuple" ∧ o.data = .seq (List.toArray us) n ∧ Vals (ks.map kV) us
theorem TupAt.keeps {h h' : Heap} {v : Value} {ks : List Key} (x : TupAt h v ks) (hk : ∀ b o, h.get? b = some o → o.cls = .type "tuple" → h'.get? b = some o) : TupAt h' v ks := by
  obtain ⟨a, o, us, n, e, ho, hc, hd, r⟩ := x
  exact ⟨a, o, us, n, e, hk _ _ ho hc, hc, hd, r⟩
theorem firsts {h : Heap} {τ : List Bool} {k : Value → List Key} (hτ : τ.head? = some true) : ∀ {vs : List Value}, (∀ v ∈ vs, TupAt h v (k v) ∧ (k v).map tyK = τ) → ∃ fs : List Value, PySem.W.KatTups h vs fs ∧ fs.length = vs.length ∧ ∀ f ∈ fs, ∃ x t, f = Value.int x t
  | [], _ => ⟨[], PySem.W.KatTups.nil, rfl, fun _ hm => by simp at hm⟩
  | v :: vs, hp => by
    obtain ⟨fs, h1, h2, h3⟩ := firsts hτ (vs := vs) fun v' hm => hp v' (List.mem_cons_of_mem _ hm)
    obtain ⟨⟨a, o, us, n, e, ho, hc, hd, r⟩, ht⟩ := hp v List.mem_cons_self
    subst e
    cases q : k (.ref a) with
    | nil => rw [q] at ht; rw [← ht] at hτ; simp at hτ
    | cons c ks =>
      rw [q] at ht r
      rw [← ht] at hτ
      cases c with
      | inr z => simp [tyK] at hτ
      | inl z =>
        cases r with
        | cons r1 r2 =>
          obtain ⟨t, rfl⟩ := r1
          refine ⟨.int z t :: fs, PySem.W.KatTups.cons ho hc hd rfl h1, by rw [List.length_cons, List.length_cons, h2], fun f hm => ?_⟩
          rcases List.mem_cons.mp hm with rfl | hm
          · exact ⟨z, t, rfl⟩
          · exact h3 f hm
theorem tups_sortable {a : Addr} {vs : List Value} {k : Value → List Key} {τ : List Bool} (hτ : τ.head? = some true) (h0 : 0 < vs.length) (hp : ∀ v ∈ vs, TupAt s.heap v (k v) ∧ (k v).map tyK = τ) (ha : ∀ o, s.heap.get? a = some o → o.cls ≠ .type "tuple") :
    SrtO.SortableO prog w A s a vs fun v u => lLt (k v) (k u) := by
  intro h' keep
  have hp' : ∀ v ∈ vs, TupAt h' v (k v) ∧ (k v).map tyK = τ := fun v hm => ⟨(hp v hm).1.keeps fun b o e c => keep b o (fun z => by subst z; exact ha o e c) e, (hp v hm).2⟩
  obtain ⟨fs, h1, h2, h3⟩ := firsts hτ hp'
  refine ⟨tuples' true, fun Q E hq => ?_, fun p q hm hm' => ?_⟩
  · refine PySem.W.kat_kind (T := .type "int") h1 (by omega) (fun f hm => ?_) (by rfl) ?_
    · obtain ⟨x, t, rfl⟩ := h3 f hm
      exact PySem.W.Looks.now
    · have e : (Value.type "int" != Value.type "tuple") = true := by first | decide +kernel | rfl | decide
      rw [e]
      exact hq
  · obtain ⟨⟨b, o, us, n, e, ho, hc, hd, r⟩, ht⟩ := hp' _ hm
    obtain ⟨⟨b', o', us', n', e', ho', hc', hd', r'⟩, ht'⟩ := hp' _ hm'
    show wpAny (model prog w) A (keyLt' (tuples' true) p.1 q.1) (fun r s' => s' = { s with heap := h' } ∧ r = lLt (k p.1) (k q.1)) (fun _ _ => False) { s with heap := h' }
    generalize k p.1 = ks at *
    generalize k q.1 = ls at *
    rw [e, e']
    refine PySem.W.kat_lt ho hd ho' hd' ?_
    have l1 := r.length
    have l2 := r'.length
    have l3 : ks.length = ls.length := by
      have := congrArg List.length (ht.trans ht'.symm)
      simpa using this
    have hf : decide (us.toArray.size < us'.toArray.size) = false := by
      refine decide_eq_false ?_
      rw [List.size_toArray, List.size_toArray]
      rw [List.length_map] at l1 l2
      omega
    rw [hf]
    refine kat_keys r r' (ht.trans ht'.symm) (fun _ c hc0 => ?_)
    rw [← ht] at hτ
    cases ks with
    | nil => simp at hc0
    | cons d ks =>
      have hd0 : d = c := by simpa using hc0
      subst hd0
      simpa using hτ
end
section
variable {prog : Program} {w : World} {A : Around} {E : Value → Shared → Prop} {s : Shared}
theorem collect_tup {l : Addr} {vs : List Value} {Q : List Value → Shared → Prop} (hl : s.heap.IsTuple l vs.toArray)
    (h : Q vs { s with heap := (s.heap.push (seqObj "list" #[] 0)).update s.heap.objs.size (Obj.mapSeq (· ++ vs.toArray)) }) (hsz : vs.length ≤ sizeLine) :
    wpAny (model prog w) A (collect (.ref l)) Q E s := by
  obtain ⟨o, ho, hc, n, hd⟩ := id hl
  unfold collect
  refine wpAny_bind (wpAny_runValue (codeAny_builtin F.entry_proto_collect ?_))
  show wpAny _ _ (do again (.builtin "list.__iadd__" ⟨[← newList [], .ref l], []⟩)) _ _ s
  refine wpAny_bind (wpAny_newList (wpAny_pure ⟨Code.quiet_builtin _ (by decide +kernel), codeAny_builtin F.entry_list_iadd ?_⟩))
  show wpAny _ _ (Builtin.List.listExtendWith (.ref s.heap.objs.size) (.ref l) (.ref s.heap.objs.size)) _ _ { s with heap := s.heap.push (seqObj "list" #[] 0) }
  unfold Builtin.List.listExtendWith
  have ho2 : (s.heap.push (seqObj "list" #[] 0)).get? l = some o := Heap.get?_push_of_some _ ho
  have self : (s.heap.push (seqObj "list" #[] 0)).get? s.heap.objs.size = some (seqObj "list" #[] 0) := Heap.get?_push_size _ rfl
  refine wpAny_bind (wpAny_typeOf (T := "tuple") ⟨o, ho2, hc⟩ ?_)
  have ht : (Value.type "tuple" == Value.type "tuple") = true := by rfl
  rw [if_pos (by rw [ht]; simp)]
  refine wpAny_bind (listItems_at ho2 hd ?_)
  refine wpAny_bind (listItems_at self rfl ?_)
  rw [if_neg (by simp)]
  refine wpAny_bind (listUpdate_at self rfl ?_ (Nat.zero_le _) (by show (#[] ++ vs.toArray).size ≤ sizeLine + 1; simp only [Array.size_append, List.size_toArray, List.length_nil]; omega))
  refine wpAny_pure ?_
  show wpAny (model prog w) A (load s.heap.objs.size >>= fun o => match o.data with | .seq xs _ => pure xs.toList | _ => unsupported "internal:collect") Q E _
  refine wpAny_bind (wpAny_load (get?_update_seq self _) ?_)
  show wpAny _ _ (pure ((#[] : Array Value) ++ vs.toArray).toList) Q E _
  rw [show ((#[] : Array Value) ++ vs.toArray).toList = vs by simp]
  exact wpAny_pure h
/-- sorted(l), l a list or a tuple -/
theorem sorted_any {l : Addr} {vs : List Value} {ltv : Value → Value → Bool} {Q : Value → Shared → Prop} (O : SrtO.Swo ltv) (hl : s.heap.IsList l vs.toArray ∨ s.heap.IsTuple l vs.toArray) (hz : vs.length ≤ sizeLine)
    (hS : 2 ≤ vs.length → ∀ (h₁ : Heap) (a : Addr), h₁.get? a = some (seqObj "list" vs.toArray 0) → (∀ b o, s.heap.get? b = some o → b ≠ a ∧ h₁.get? b = some o) → SrtO.SortableO prog w A.in1.in1 { s with heap := h₁ } a vs ltv)
    (h : ∀ out : List Value, SrtO.Srtd ltv out → SrtO.Stb ltv out vs → Q (.ref (s.heap.objs.size + 1)) { s with heap := sortedAll s.heap vs out.toArray }) :
    wpAny (model prog w) A (call (.builtin "sorted") [.ref l]) Q E s := by
  rcases hl with hl | hl
  · exact SrtO.sorted_ord O hl hz hS h
  refine Calls.call_function_entry kind_sorted plain_sorted entry_sorted (args_sorted1 _) ?_
  unfold Builtin.«sorted»
  refine wpAny_bind (m := checkCount "sorted" 1 1 _) (wpAny_pure ?_)
  refine wpAny_bind (collect_tup hl ?_ hz)
  refine wpAny_bind (wpAny_newList ?_ hz)
  have hsz : ((s.heap.push (seqObj "list" #[] 0)).update s.heap.objs.size (Obj.mapSeq (· ++ vs.toArray))).objs.size = s.heap.objs.size + 1 := by
    rw [Heap.size_update, size_push']
  have atL : (((s.heap.push (seqObj "list" #[] 0)).update s.heap.objs.size (Obj.mapSeq (· ++ vs.toArray))).push (seqObj "list" vs.toArray 0)).get? (s.heap.objs.size + 1) = some (seqObj "list" vs.toArray 0) := by
    rw [← hsz]; exact Heap.get?_push_size _ rfl
  have old : ∀ b o, s.heap.get? b = some o → b ≠ s.heap.objs.size + 1 ∧ (((s.heap.push (seqObj "list" #[] 0)).update s.heap.objs.size (Obj.mapSeq (· ++ vs.toArray))).push (seqObj "list" vs.toArray 0)).get? b = some o := by
    intro b o q
    have lt := Heap.lt_size q
    refine ⟨Nat.ne_of_lt (Nat.lt_succ_of_lt lt), Heap.get?_push_of_some _ ?_⟩
    rw [Heap.get?_update_ne _ _ _ _ (Nat.ne_of_lt lt)]
    exact Heap.get?_push_of_some _ q
  show wpAny _ _ _ _ _ { s with heap := ((s.heap.push (seqObj "list" #[] 0)).update s.heap.objs.size (Obj.mapSeq (· ++ vs.toArray))).push (seqObj "list" vs.toArray 0) }
  rw [hsz]
  refine wpAny_bind (wpAny_holding (wpAny_call_entry slot_list_sort ⟨_, atL, rfl⟩ entry_list_sort (SrtO.list_sort_ord O atL hz (fun h2 => hS h2 _ _ atL old) fun out h1 h2 => ⟨_, rfl, ?_⟩) (args_list_sort _)))
  exact wpAny_pure ⟨_, rfl, h out h1 h2⟩
end
def rSortTup (K : PySem.W.Frag) : List V → Hp → VK → Prop := fun vs H Q => ∃ (a : Addr) (xs : List V) (k : V → List Key) (τ : List Bool), vs = [V.ref a] ∧ (SqL K H a xs ∨ SqT K H a xs) ∧ τ.head? = some true ∧
  (∀ x ∈ xs, ∃ t, x = V.ref t ∧ SqT K H t ((k x).map kV) ∧ (k x).map tyK = τ) ∧ ∀ ys p, SrtO.Srtd (fun x y => lLt (k x) (k y)) ys → ys.Perm xs → H p = none → Q (.ref p) (upd H p (.lst ys))
section
variable {X : Cx}
theorem cr_sortTup : CallR X (.builtin "sorted") (rSortTup X.K) := by
  intro pins s σ H vs us Q I r h
  obtain ⟨a, xs, k, τ, rfl, hs, hτ, hx, q⟩ := h
  obtain ⟨its, rv, hl, hz⟩ : ∃ its : List Value, Vals xs its ∧ (s.heap.IsList a its.toArray ∨ s.heap.IsTuple a its.toArray) ∧ xs.length ≤ sizeLine := by
    rcases hs with hs | hs
    · obtain ⟨its, rv, hl, hz⟩ := I.list hs
      exact ⟨its, rv, .inl hl.isList, hz⟩
    · obtain ⟨its, rv, hl, hz⟩ := I.tuple hs
      exact ⟨its, rv, .inr hl, hz⟩
  obtain ⟨u, rfl, ru⟩ := vals1 r
  obtain rfl : u = Value.ref a := ru
  obtain ⟨e1, e2⟩ := refs_back rv fun x m => by
    obtain ⟨t, e, _⟩ := hx x m
    exact ⟨t, e⟩
  have at_v : ∀ v ∈ its, TupAt s.heap v (k (backV v)) ∧ (k (backV v)).map tyK = τ := fun v hv => by
    obtain ⟨t, rfl⟩ := e2 v hv
    have hm : V.ref t ∈ xs := by rw [e1]; exact List.mem_map.mpr ⟨_, hv, rfl⟩
    obtain ⟨t', e, ht, hty⟩ := hx _ hm
    cases e
    obtain ⟨its2, r2, ⟨o, ho, hc, n, hd⟩, _⟩ := I.tuple ht
    exact ⟨⟨t, o, its2, n, rfl, ho, hc, hd, r2⟩, hty⟩
  refine sorted_any (swo_l fun v => k (backV v)) hl (by rw [← rv.length]; exact hz) (fun h2 h₁ b hb kk => ?_) fun out h1 h2 => ?_
  · refine tups_sortable (s := { s with heap := h₁ }) (k := fun v => k (backV v)) hτ (by omega) (fun v hm => ⟨(at_v v hm).1.keeps fun c o e _ => (kk c o e).2, (at_v v hm).2⟩) fun o e => ?_
    have e' : some o = some (seqObj "list" its.toArray 0) := e.symm.trans hb
    cases e'
    intro c
    exact absurd (Value.type.inj c) (by decide)
  · have h3 : ∀ u ∈ out, ∃ a, u = Value.ref a := fun u hu => e2 u (h2.perm.mem_iff.mp hu)
    obtain ⟨n, hn⟩ := sortedAll_at s.heap its out.toArray
    have hp : (out.map backV).Perm xs := by rw [e1]; exact h2.perm.map backV
    have hfr : H (s.heap.objs.size + 1) = none := I.hok.fresh (Nat.le_succ _)
    refine ⟨.ref (s.heap.objs.size + 1), upd H (s.heap.objs.size + 1) (.lst (out.map backV)), I.laid (t' := s.toks) (fun b o e => sortedAll_old e) (Nat.le_succ _) ⟨?_, out, n, vals_back h3, hn⟩, rfl, q _ _ (SrtO.srtd_map h1) hp hfr⟩
    rw [hp.length_eq]
    exact hz
theorem k_sortTup {K : PySem.W.Frag} (h : X.K = K) : CallR X (.builtin "sorted") (rSortTup K) := by subst h; exact cr_sortTup
end
end Gd

set_option Elab.async false
set_option linter.all false
set_option maxRecDepth 100000
set_option maxHeartbeats 4000000
/-! sets of whole numbers and texts, with their members told as a list; set(list | tuple); sorted(set) of texts -/
namespace Gd
open PySem PySem.Spec PyProof.Rows L2
def kOf : Value → Key
  | .int k _ => .inl k
  | .str x _ => .inr x
  | _ => .inl 0
theorem kOf_is : ∀ {k : Key} {v : Value}, keyIs k v = true → kOf v = k := fun {k v} h => by
  rcases keyIs_shape h with ⟨i, t, rfl, rfl⟩ | ⟨x, t, rfl, rfl⟩ <;> rfl
theorem keyIs_scan {k : Key} {v : Value} (h : keyIs k v = true) : v.scannable = true := by
  rcases keyIs_shape h with ⟨i, t, rfl, rfl⟩ | ⟨x, t, rfl, rfl⟩ <;> rfl
abbrev mixK (P : Program) (w : World) : PySem.KeyKind P w Key := mixKind P w
def ek (e : Int × Value) : Key := kOf e.2
/-- the set at a holds D, each member once -/
structure Mem (P : Program) (w : World) (h : Heap) (a : Addr) (D : List Key) : Prop where
  nd : D.Nodup
  sml : D.length < scanBound
  ex : ∃ o es ep t, h.get? a = some o ∧ o.ExactSet ∧ o.data = .set es ep t ∧ ElemsOf (mixK P w) es.toList ∧ (es.toList.map ek).Perm D ∧ t.fits es.size = true ∧ Ris t.place.toList ∧ (w.params.followText "set-order" = true ∨ t.led = true)
section
variable {P : Program} {w : World} {h h' : Heap} {a : Addr} {D : List Key}
theorem Mem.to (M : Mem P w h a D) (k : ∀ o, h.get? a = some o → h'.get? a = some o) : Mem P w h' a D := by
  obtain ⟨n, z, o, es, ep, t, ho, r⟩ := M
  exact ⟨n, z, o, es, ep, t, k o ho, r⟩
theorem Mem.obj (M : Mem P w h a D) : ∃ o, h.get? a = some o := by
  obtain ⟨_, _, o, _, _, _, ho, _⟩ := M
  exact ⟨o, ho⟩
theorem el_is {l : List (Int × Value)} (el : ElemsOf (mixK P w) l) {e : Int × Value} (he : e ∈ l) : keyIs (ek e) e.2 = true := by
  obtain ⟨⟨k, hk, _⟩, _⟩ := el e he
  have hk : keyIs k e.2 = true := hk
  unfold ek
  rw [kOf_is hk]
  exact hk
theorem el_mem {l : List (Int × Value)} (el : ElemsOf (mixK P w) l) (k : Key) : k ∈ l.map ek ↔ ∃ e ∈ l, (mixK P w).is k e.2 = true := by
  rw [List.mem_map]
  exact ⟨fun ⟨e, he, q⟩ => ⟨e, he, q ▸ el_is el he⟩, fun ⟨e, he, q⟩ => ⟨e, he, kOf_is (show keyIs k e.2 = true from q)⟩⟩
end
instance memDec (k : Key) : (D : List Key) → Decidable (k ∈ D)
  | [] => .isFalse (by simp)
  | x :: r => if e : k = x then .isTrue (by rw [e]; exact List.mem_cons_self) else
    match memDec k r with
    | .isTrue m => .isTrue (List.mem_cons_of_mem _ m)
    | .isFalse m => .isFalse fun z => (List.mem_cons.mp z).elim e m
/-- one member more -/
def addK (D : List Key) (k : Key) : List Key := if k ∈ D then D else D ++ [k]
theorem addK_nd {D : List Key} (h : D.Nodup) (k : Key) : (addK D k).Nodup := by
  unfold addK
  split
  · exact h
  · rename_i c
    rw [List.nodup_append]
    refine ⟨h, by simp, fun x hx y hy e => ?_⟩
    rw [List.mem_singleton] at hy
    exact c (hy ▸ e ▸ hx)
theorem addK_mem {D : List Key} {k x : Key} : x ∈ addK D k ↔ x ∈ D ∨ x = k := by
  unfold addK
  split
  · rename_i c
    exact ⟨.inl, fun z => z.elim id fun e => e ▸ c⟩
  · simp
theorem addK_len {D : List Key} {k : Key} : (addK D k).length ≤ D.length + 1 := by
  unfold addK
  split
  · omega
  · simp
section
variable {P : Program} {w : World} {A : Around} {E : Value → Shared → Prop} {s : Shared} {a : Addr} {D : List Key}
/-- the tail of an add -/
theorem mem_tail {g : Bool → Sem Unit} (hg : ∀ b s₁ (Q' : Unit → Shared → Prop), Q' () s₁ → wpAny (model P w) A (g b) Q' E s₁) {o : Obj} {es e1 : Array (Int × Value)} {ep : Nat} {t t1 : SetTable}
    (ho : s.heap.get? a = some o) (hx : o.ExactSet) (hd : o.data = .set es ep t) (el : ElemsOf (mixK P w) e1.toList) (pD : (e1.toList.map ek).Perm D) (nD : D.Nodup) (zD : D.length < scanBound)
    (hf : t1.fits e1.size = true) (hr : Ris t1.place.toList) (hl : w.params.followText "set-order" = true ∨ t1.led = true) {wd : Bool} {R : Option Bool → Shared → Prop}
    (hR : ∀ h', Heap.SameBut a s.heap h' → Mem P w h' a D → R (some true) { s with heap := h' }) :
    wpAny (model P w) A (do storeSet a e1 t1
                            if (!wd && t1.tooFull) = true then do
                              g (relayAll t1 e1 (SetTable.grown e1.size)).2.2
                              storeSet a (relayAll t1 e1 (SetTable.grown e1.size)).1 (relayAll t1 e1 (SetTable.grown e1.size)).2.1; pure (some true)
                            else pure (some true)) R E s := by
  have z1 : e1.size < scanBound := by
    have q := pD.length_eq
    rw [List.length_map, Array.length_toList] at q
    rw [q]; exact zD
  refine wpAny_bind (wpAny_storeSet_of ho hd ?_ (fits_of_scanBound z1))
  have p1 := store_at (es' := e1) (t' := t1) ho hd
  have b1 := Heap.SameBut.update s.heap a (Obj.putSet e1 t1)
  split
  · have pm := relayAll_perm t1 e1 (SetTable.grown e1.size)
    have f3 := relayAll_fits t1 e1 (SetTable.grown e1.size)
    have r3 := relayAll_ris t1 e1 (SetTable.grown e1.size)
    have l3 := relayAll_led t1 e1 (SetTable.grown e1.size)
    generalize relayAll t1 e1 (SetTable.grown e1.size) = Z at pm f3 r3 l3 ⊢
    obtain ⟨e2, t3, gv⟩ := Z
    dsimp only at pm f3 r3 l3 ⊢
    have z2 : e2.size < scanBound := by
      rw [← Array.length_toList, pm.length_eq, Array.length_toList]; exact z1
    refine wpAny_bind (hg _ _ _ ?_)
    refine wpAny_bind (wpAny_storeSet_of p1 rfl ?_ (fits_of_scanBound z2))
    have p2 := store_at (es' := e2) (t' := t3) p1 rfl
    exact wpAny_pure (hR _ (b1.trans (Heap.SameBut.update _ a _)) ⟨nD, zD, _, e2, _, t3, p2, hx, rfl, el.perm pm, (pm.map ek).trans pD, f3, r3, hl.imp id fun z => by rw [l3]; exact z⟩)
  · exact wpAny_pure (hR _ b1 ⟨nD, zD, _, e1, _, t1, p1, hx, rfl, el, pD, hf, hr, hl⟩)
theorem mem_add {k : Key} {u : Value} {Q : Bool → Shared → Prop} (hu : keyIs k u = true) (M : Mem P w s.heap a D) (room : D.length + 1 < scanBound)
    (hQ : ∀ (b : Bool) h', Heap.SameBut a s.heap h' → Mem P w h' a (addK D k) → Q b { s with heap := h' }) : wpAny (model P w) A (setAddHashed a u ((mixK P w).hash k)) Q E s := by
  obtain ⟨nd, sml, o, es, ep, t, ho, hx, hd, el, pD, hf, hr, hl⟩ := M
  have zes : es.size = D.length := by
    have q := pD.length_eq
    rw [List.length_map, Array.length_toList] at q
    exact q
  have zb : es.size < scanBound := by rw [zes]; exact sml
  have kis : (mixK P w).is k u = true := hu
  unfold setAddHashed setAddHashedIn
  refine wpAny_holding (wpAny_bind (wpAny_setState_of ho hd hf ?_))
  dsimp only
  rw [byScan_of (keyIs_scan hu) zb el]
  simp only [↓reduceIte]
  unfold setAddByScan
  refine wpAny_bind (wpAny_bind (wpAny_rule ?_))
  refine wpAny_bind (wpAny_setScan_of kis ho hd hf el ?_)
  cases hfi : List.findIdx? (fun e => (mixK P w).is k e.2) es.toList with
  | some j =>
    dsimp only
    obtain ⟨hj, pj, _⟩ := List.findIdx?_eq_some_iff_getElem.mp hfi
    have hm : k ∈ D := pD.mem_iff.mp ((el_mem (P := P) (w := w) el k).2 ⟨es.toList[j], List.getElem_mem hj, pj⟩)
    have eD : addK D k = D := if_pos hm
    refine wpAny_pure (wpAny_pure ?_)
    have q := hQ false s.heap (Heap.SameBut.refl a s.heap) (by rw [eD]; exact ⟨nd, sml, o, es, ep, t, ho, hx, hd, el, pD, hf, hr, hl⟩)
    exact q
  | none =>
    dsimp only
    have nm : k ∉ D := fun z => by
      obtain ⟨e, he, q⟩ := (el_mem (P := P) (w := w) el k).1 (pD.mem_iff.mpr z)
      have c := List.findIdx?_eq_none_iff.mp hfi e he
      rw [q] at c
      cases c
    have eD : addK D k = D ++ [k] := if_neg nm
    have gw : ∀ (b : Bool) s₁ (Q' : Unit → Shared → Prop), Q' () s₁ → wpAny (model P w) A (match b with | true => rule "set.scan.the-table-gave-way" | false => pure ()) Q' E s₁ :=
      fun b _ _ q => match b with | true => wpAny_rule q | false => wpAny_pure q
    have pm := layNew_perm t es ((mixK P w).hash k) u
    have f1 := layNew_fits t es ((mixK P w).hash k) u
    have r1 := layNew_ris t es ((mixK P w).hash k) u hr
    have l1 := layNew_led t es ((mixK P w).hash k) u
    generalize layNew t es ((mixK P w).hash k) u = Z at pm f1 r1 l1 ⊢
    obtain ⟨e1, t1, wd, gv⟩ := Z
    dsimp only at pm f1 r1 l1 ⊢
    rw [Array.toList_push] at pm
    have el1 : ElemsOf (mixK P w) e1.toList := (el.push (k := k) (x := u) kis (keyIs_scan hu)).perm pm
    have pk : (e1.toList.map ek).Perm (addK D k) := by
      refine (pm.map ek).trans ?_
      rw [eD, List.map_append]
      refine pD.append ?_
      rw [show [((mixK P w).hash k, u)].map ek = [k] by show [kOf u] = [k]; rw [kOf_is hu]]
    have nd1 := addK_nd nd k
    have z1 : (addK D k).length < scanBound := Nat.lt_of_le_of_lt addK_len room
    have led1 : w.params.followText "set-order" = true ∨ t1.led = true := hl.imp id fun z => by rw [l1]; exact z
    refine wpAny_bind (gw _ _ _ ?_)
    split
    · refine wpAny_bind ?_
      rw [hashByValue_scannable 8 (keyIs_scan hu)]
      refine wpAny_pure ?_
      refine mem_tail gw ho hx hd el1 pk nd1 z1 ?_ ?_ ?_ ?_
      · first | (split <;> first | exact f1 | exact SetTable.fits_plain_off f1) | exact f1
      · first | (split <;> exact r1) | exact r1
      · first | (split <;> exact led1) | exact led1
      · exact fun h' sb r => wpAny_pure (hQ true h' sb r)
    · refine wpAny_bind (wpAny_pure ?_)
      simp only [↓reduceIte]
      exact mem_tail gw ho hx hd el1 pk nd1 z1 f1 r1 led1 fun h' sb r => wpAny_pure (hQ true h' sb r)

/-! ### set(xs) -/
def fs0 (w : World) : Obj := { cls := .type "set", dict := none, data := .set #[] 0 (.fresh 0 0 (!w.params.followText "set-order")) }
theorem fs0_mem {h : Heap} (ho : h.get? a = some (fs0 w)) : Mem P w h a [] :=
  ⟨.nil, by decide, fs0 w, #[], 0, .fresh 0 0 (!w.params.followText "set-order"), ho, ⟨rfl, rfl, rfl⟩, rfl, fun e he => by simp at he, .refl _, rfl, .nil, by
    show _ ∨ (!w.params.followText "set-order") = true
    cases w.params.followText "set-order"
    · exact .inr rfl
    · exact .inl rfl⟩
/-- the members that a row of keys brings -/
def gath : List Key → List Key → List Key
  | D, [] => D
  | D, k :: r => gath (addK D k) r
theorem gath_len : ∀ (ks D : List Key), (gath D ks).length ≤ D.length + ks.length
  | [], D => Nat.le_refl _
  | k :: r, D => by
    have a := gath_len r (addK D k)
    have b := addK_len (D := D) (k := k)
    simp only [gath, List.length_cons]
    omega
theorem gath_mem : ∀ {ks D : List Key} {x : Key}, x ∈ gath D ks ↔ x ∈ D ∨ x ∈ ks
  | [], D, x => by simp [gath]
  | k :: r, D, x => by
    rw [gath, gath_mem, addK_mem, List.mem_cons, or_assoc]
theorem gath_nd : ∀ (ks : List Key) {D : List Key}, D.Nodup → (gath D ks).Nodup
  | [], _, h => h
  | k :: r, _, h => gath_nd r (addK_nd h k)
theorem upd_keys {I : Addr} {fp wr : List Addr} {G : Array GenState → Array GenState → Prop} {n : Nat} {Pv : Nat → Value → Prop} {St : Nat → Shared → Prop} {R : Result → Shared → Prop} (W : WalksS P w A.in1 I fp wr G n Pv St)
    (S : Addr) (hSf : S ∉ fp) : ∀ (ks : List Key) (i : Nat) (D : List Key) (s : Shared), i + ks.length = n → (∀ j v, Pv j v → i ≤ j → ∃ k, ks[j - i]? = some k ∧ keyIs k v = true) → D.length + ks.length + 1 < scanBound → St i s → Mem P w s.heap S D →
      (∀ s', Moved (S :: wr) G s s' → Mem P w s'.heap S (gath D ks) → R (.ok (.ret .none)) s') → codeAny (model P w) A (.builtin "set.update.loop" ⟨[.ref S, .ref I], []⟩) R s
  | [], i, D, s, hi, _, _, st, M, hR => by
    have hw : S ∉ wr := fun z => hSf (W.sub _ z)
    have e : i = n := by simpa using hi
    subst e
    refine codeAny_builtin F.entry_set_update_loop ?_
    rw [Around.under_plainId F.plain_set_update_loop _]
    show wpAny _ A.in1 (pyNext (.ref I) >>= _) _ _ s
    refine wpAny_bind (W.done s _ _ st fun s' hm => ?_)
    exact wpAny_pure (hR s' (hm.mono fun b hb => List.mem_cons_of_mem _ hb) (M.to fun o e => hm.heap S o hw e))
  | k :: r, i, D, s, hi, hv, hb, st, M, hR => by
    have hw : S ∉ wr := fun z => hSf (W.sub _ z)
    rw [List.length_cons] at hi hb
    refine codeAny_builtin F.entry_set_update_loop ?_
    rw [Around.under_plainId F.plain_set_update_loop _]
    show wpAny _ A.in1 (pyNext (.ref I) >>= _) _ _ s
    refine wpAny_bind (W.item i s _ _ (by omega) st fun v s1 hP st1 hm => ?_)
    obtain ⟨k', ek', hk'⟩ := hv i v hP (Nat.le_refl i)
    rw [Nat.sub_self] at ek'
    have ekk : k = k' := Option.some.inj ek'
    subst ekk
    have M1 : Mem P w s1.heap S D := M.to fun o e => hm.heap S o hw e
    show wpAny _ A.in1 (holding [v] (setAdd S v) >>= _) _ _ s1
    refine wpAny_bind (wpAny_holding ?_)
    unfold setAdd
    refine wpAny_holding (wpAny_bind ((mixK P w).pyHash (k := k) hk' ?_))
    refine mem_add (s := { s1 with toks := s1.toks + 1 }) hk' M1 (by omega) fun b h' sb M2 => ?_
    have kept : ∀ b ∈ fp, ∀ o, s1.heap.get? b = some o → h'.get? b = some o := fun b hb o e => by
      rw [sb.2 b fun z => hSf (z ▸ hb)]; exact e
    refine wpAny_pure ⟨plainId_quiet F.plain_set_update_loop _, upd_keys W S hSf r (i + 1) (addK D k) _ (by omega) (fun j v hp hj => ?_) (by have := addK_len (D := D) (k := k); omega) (W.frame _ s1 _ _ st1 (Nat.le_succ _) kept) M2 fun s2 hm2 M3 => ?_⟩
    · obtain ⟨q, eq, hq⟩ := hv j v hp (by omega)
      rw [show j - i = (j - (i + 1)) + 1 by omega] at eq
      exact ⟨q, eq, hq⟩
    · refine hR s2 (Moved.trans W.gtrans ((hm.mono fun b hb => List.mem_cons_of_mem _ hb).then_heap (Nat.le_succ _) fun b o hb e => ?_) hm2) M3
      rw [sb.2 b fun z => hb (z ▸ List.mem_cons_self)]; exact e
end
end Gd

set_option Elab.async false
set_option linter.all false
set_option maxRecDepth 100000
set_option maxHeartbeats 4000000
/-! sets of whole numbers and texts, with their members told as a list; set(list | tuple); sorted(set) of texts -/
namespace Gd
open PySem PySem.Spec PyProof.Rows L2
section
variable {P : Program} {w : World} {A : Around} {E : Value → Shared → Prop} {s : Shared}
/-- what the set holds when it is made of the keys ks -/
def Full (P : Program) (w : World) (s : Shared) (ks : List Key) (s2 : Shared) : Prop := ∃ h' tk, s2 = { s with heap := h', toks := tk } ∧ Mem P w h' s.heap.objs.size (gath [] ks) ∧ ∀ b o, s.heap.get? b = some o → h'.get? b = some o
theorem set_of_list {l : Addr} {its : Array Value} {ks : List Key} {Q : Value → Shared → Prop} (hh : A.handled = none) (hl : s.heap.IsList l its) (hv : ∀ (j : Nat) (v : Value), its[j]? = some v → ∃ k, ks[j]? = some k ∧ keyIs k v = true) (hn : its.size = ks.length)
    (hb : ks.length + 1 < scanBound) (h : ∀ s2, Full P w s ks s2 → Q (.ref s.heap.objs.size) s2) : wpAny (model P w) A (call (.type "set") [.ref l]) Q E s := by
  obtain ⟨c, tl, hmro⟩ := F.called_set.mro
  have hmd := F.called_set.made; have hsb := F.called_set.sub
  refine wpAny_call (codeAny_of_tree ?_)
  show wpAny _ _ (callAny (.type "set") _) _ _ _
  refine wpAny_pure ⟨Code.quiet_builtin _ (by decide +kernel), codeAny_builtin F.entry_type_call ?_⟩
  rw [Around.under_plain (weight_type_call_type "set" [.ref l] []) rfl]
  have g1 := F.called_set.notType; have g2 := F.called_set.canCreate; have g3 := F.typeCall_set_1 (.ref l)
  repeat (any_goals (first | assumption | wp_step))

  refine codeAny_mono (code_set_led1 (.ref l) (E := E) (Q₁ := fun x s1 => x = .ref s.heap.objs.size ∧ s1 = { s with heap := s.heap.push (fs0 w) }) ⟨rfl, rfl⟩) fun r s1 hr => ?_
  rcases r with e | fl
  · exact hr
  cases fl with
  | ret x =>
    obtain ⟨rfl, rfl⟩ := hr
    have oS : (s.heap.push (fs0 w)).get? s.heap.objs.size = some (fs0 w) := Heap.get?_push_size _ rfl
    have hT : Shared.TypeIs { s with heap := s.heap.push (fs0 w) } (.ref s.heap.objs.size) "set" := ⟨_, oS, rfl⟩
    have k1 := F.called_set.init.lookup; have k2 := F.called_set.init.bind (.ref s.heap.objs.size)
    repeat (any_goals (first | assumption | wp_step))

    refine codeAny_mono (codeAny_call_builtin (R := wants (fun r s2 => r = .none ∧ Full P w s ks s2) E) F.called_set.init.plain F.entry_set_init (check_set_init_1 hT ?_)) fun r2 s2 hr2 => ?_
    · obtain ⟨⟨oc, odd, oda, osl⟩, hol, hcl, nl, hdl⟩ := hl
      simp only at hcl hdl
      subst hcl; subst hdl
      have olp : (s.heap.push (fs0 w)).get? l = some { cls := .type "list", dict := odd, data := .seq its nl, slots := osl } := Heap.get?_push_of_some _ hol
      have q1 := F.sub_list_set; have q2 := F.sub_list_frozenset; have q3 : (Value.type "list" == Value.type "dict") = false := by decide
      have hl1 : (s.heap.push (fs0 w)).IsList l its := ⟨_, olp, rfl, nl, rfl⟩
      unfold Builtin.«set.__init__» noKeywords Builtin.Frozenset.updateFrom
      generalize hPI : pyIter = PI
      wp_walk
      subst hPI

      refine wpAny_pyIter_list hl1 (wpAny_bind (wpAny_runValue ?_))
      have hlS : l < s.heap.objs.size := Heap.lt_size hol
      have zp : (s.heap.push (fs0 w)).objs.size = s.heap.objs.size + 1 := Heap.size_push ..
      have nI : l ≠ (s.heap.push (fs0 w)).objs.size := by rw [zp]; exact Nat.ne_of_lt (Nat.lt_succ_of_lt hlS)
      have hSf : s.heap.objs.size ∉ [(s.heap.push (fs0 w)).objs.size, l] := by
        rw [zp]; simp only [List.mem_cons, List.not_mem_nil, or_false, not_or]; exact ⟨Nat.ne_of_lt (Nat.lt_succ_self _), Nat.ne_of_gt hlS⟩
      refine upd_keys ((Walks.list (show A.in1.in1.in1.handled = none by simp [hh]) _ l nI its).toS) s.heap.objs.size hSf ks 0 [] _ (by rw [hn]; omega) (fun j v hp _ => hv j v hp) (by simp; omega)
        ⟨⟨_, Heap.get?_push_size _ rfl, rfl, rfl⟩, hl1.push _⟩ (fs0_mem (Heap.get?_push_of_some _ oS)) fun s' hm M => ?_
      obtain ⟨h', gg, dd, tk', oo⟩ := s'
      have e1 : gg = s.gens := hm.gens
      have e2 : dd = s.drawn := hm.drawn
      have e3 : oo = s.os := hm.os
      subst e1; subst e2; subst e3
      show wpAny _ _ _ _ _ _
      refine wpAny_pure ?_
      show wpAny _ _ (ret Value.none) _ _ _
      refine wpAny_pure ⟨rfl, h', tk', rfl, M, fun b o e => ?_⟩
      have lb : b < s.heap.objs.size := Heap.lt_size e
      refine hm.heap b o (fun z => ?_) (Heap.get?_push_of_some _ (Heap.get?_push_of_some _ e))
      simp only [List.mem_cons, List.not_mem_nil, or_false] at z
      rw [zp] at z
      exact z.elim (Nat.ne_of_lt lb) (Nat.ne_of_lt (Nat.lt_succ_of_lt lb))
    · rcases r2 with e | f2
      · exact hr2
      cases f2 with
      | ret r =>
        obtain ⟨rfl, hF⟩ := hr2
        repeat (any_goals (first | assumption | wp_step))
        exact h _ hF
      | _ => exact hr2.elim
  | _ => exact hr.elim
end
end Gd

set_option Elab.async false
set_option linter.all false
set_option maxRecDepth 100000
set_option maxHeartbeats 4000000
/-! set(list) and sorted(set) of texts, as rules -/
namespace Gd
open PySem PySem.Spec PyProof.Rows L2
def SetM (P : Program) (w : World) (a : Addr) (D : List Key) : HO := .ext fun h => Mem P w h a D
def sOf : Key → Str
  | .inr x => x
  | .inl _ => Str.empty
theorem setM_new {P : Program} {w : World} {H : Hp} {h : Heap} {a : Addr} {D : List Key} (M : Mem P w h a D) : ObjOk P w H h a (SetM P w a D) := ⟨M, M.obj, fun _ _ p k => p.to k⟩
section
variable {X : Cx}
theorem setM_get {pins : List (Addr × Obj)} {σ : L2.St} {H : Hp} {s : Shared} {a : Addr} {D : List Key} (I : Inv X pins σ H s) (e : H a = some (SetM X.prog X.w a D)) : Mem X.prog X.w s.heap a D := (I.hok a _ e).1
theorem kV_keyIs {k : Key} {u : Value} (r : RelV (kV k) u) : keyIs k u = true := by
  cases k with
  | inl i =>
    obtain ⟨t, rfl⟩ := r
    exact keyIs_int i t
  | inr x =>
    obtain ⟨t, rfl⟩ := r
    exact keyIs_str x t
def rSetM (K : PySem.W.Frag) (P : Program) (w : World) : List V → Hp → VK → Prop := fun xs H Q => ∃ (l : Addr) (ks : List Key), xs = [.ref l] ∧ SqL K H l (ks.map kV) ∧ ks.length + 1 < scanBound ∧ ∀ p, H p = none → Q (.ref p) (upd H p (SetM P w p (gath [] ks)))
theorem cr_setM (hc : X.calm = true) : CallR X (.type "set") (rSetM X.K X.prog X.w) := by
  intro pins s σ H xs us Q I r h
  obtain ⟨l, ks, rfl, hS, hb, q⟩ := h
  rw [Vals.ref1 r]
  obtain ⟨its, rv, ⟨ol, nl, gl, cl, _, dl⟩, _⟩ := I.list hS
  have il : s.heap.IsList l its.toArray := ⟨ol, gl, cl, nl, dl⟩
  have ln : ks.length = its.length := by rw [← List.length_map (f := kV)]; exact rv.length
  refine set_of_list (ks := ks) (I.ok.hd hc) il (fun j v e => ?_) (by rw [List.size_toArray]; exact ln.symm) hb fun s2 hF => ?_
  · rw [List.getElem?_toArray] at e
    have hj : j < its.length := (List.getElem?_eq_some_iff.mp e).1
    have hk : ks[j]? = some ks[j] := List.getElem?_eq_getElem (by omega)
    obtain ⟨u, eu, ru⟩ := rv.get (show (ks.map kV)[j]? = some (kV ks[j]) by rw [List.getElem?_map, hk]; rfl)
    rw [e] at eu
    cases eu
    exact ⟨_, hk, kV_keyIs ru⟩
  · obtain ⟨h', tk, rfl, M, kp⟩ := hF
    exact ⟨.ref _, _, I.laid (t' := tk) kp (Nat.le_refl _) (setM_new M), rfl, q _ (I.hok.fresh (Nat.le_refl _))⟩
theorem strs_out : ∀ (us : List Value) , (∀ u ∈ us, ∃ z, keyIs (.inr z) u = true) → StrsAre us (us.map fun u => sOf (kOf u))
  | [], _ => .nil
  | u :: us, h => by
    obtain ⟨z, hz⟩ := h u List.mem_cons_self
    rcases keyIs_shape hz with ⟨i, t, e, _⟩ | ⟨x, t, e, rfl⟩
    · cases e
    · exact .cons x t (strs_out us fun u hu => h u (List.mem_cons_of_mem _ hu))
/-- sorted(found), found a set of texts, fewer than 64 of them -/
def rSortM (P : Program) (w : World) : List V → Hp → VK → Prop := fun vs H Q => ∃ (a : Addr) (zs : List Str), vs = [V.ref a] ∧ H a = some (SetM P w a (zs.map .inr)) ∧ zs.length < 64 ∧
  ∀ (ys : List Str) (p : Addr), ys.Perm zs → sortedS ys = true → H p = none → Q (.ref p) (upd H p (.lst (ys.map V.str)))
theorem cr_sortM (hc : X.calm = true) : CallR X (.builtin "sorted") (rSortM X.prog X.w) := by
  intro pins s σ H vs us Q I r h
  obtain ⟨a, zs, rfl, ha, h64, q⟩ := h
  obtain ⟨nd, sml, o, es, ep, t, ho, hx, hd, el, pD, hf, hr, hl⟩ := setM_get I ha
  rw [Vals.ref1 r]
  have ze : es.toList.length = zs.length := by
    have z := pD.length_eq
    rw [List.length_map, List.length_map] at z
    exact z
  have zb : es.size < scanBound := by rw [← Array.length_toList, ze, ← List.length_map (f := (Sum.inr : Str → Key))]; exact sml
  refine Calls.call_function_entry kind_sorted plain_sorted entry_sorted (args_sorted1 _) ?_
  unfold Builtin.«sorted»
  refine wpAny_bind (m := checkCount "sorted" 1 1 _) (wpAny_pure ?_)
  refine wpAny_bind (collect_set (A := X.A.in1) (I.ok.hd hc) ⟨o, ho, hx.1, hd⟩ hf zb hr hl fun s1 vs k1 hz g1 o1 pm => ?_)
  have hvl : vs.length = zs.length := by rw [pm.length_eq, List.length_map]; exact ze
  have perm : (vs.map fun u => sOf (kOf u)).Perm zs := by
    have p1 := (pm.map fun u => sOf (kOf u))
    have p2 := pD.map sOf
    rw [List.map_map] at p1 p2
    refine p1.trans (p2.trans ?_)
    rw [List.map_map, show (sOf ∘ Sum.inr : Str → Str) = id from rfl, List.map_id]
  have hS : StrsAre vs (vs.map fun u => sOf (kOf u)) := strs_out vs fun u hu => by
    obtain ⟨e, he, rfl⟩ := List.mem_map.mp (pm.mem_iff.mp hu)
    have hm : ek e ∈ zs.map Sum.inr := pD.mem_iff.mp (List.mem_map_of_mem he)
    obtain ⟨z, _, ez⟩ := List.mem_map.mp hm
    refine ⟨z, ?_⟩
    rw [ez]
    exact el_is el he
  refine wpAny_bind (wpAny_newList ?_ (by rw [hvl, sizeLine_eq]; omega))
  have hoL : (s1.heap.push (seqObj "list" vs.toArray 0)).get? s1.heap.objs.size = some (seqObj "list" vs.toArray 0) := Heap.get?_push_size _ rfl
  refine wpAny_bind (wpAny_holding (wpAny_call_entry slot_list_sort ⟨_, hoL, rfl⟩ entry_list_sort (list_sort_treeK strKind_oneLt hoL hS.keysOf (fun v₁ v₂ rest e => keyKind_strs (by rw [← e]; exact hS)) (by rw [hvl]; exact h64) fun st' hp hs => ⟨_, rfl, ?_⟩) (args_list_sort _)))
  obtain ⟨ys, b1, b2, b3⟩ := sorted_out_str hS hp hs
  obtain ⟨e', he'⟩ := sortedHeap_at (vs := vs) (out := (arrOf st').map (·.2)) hoL
  have hlen : (ys.map V.str).length ≤ sizeLine := by
    rw [List.length_map, b2.length_eq, List.length_map, hvl]
    exact Nat.le_trans (Nat.le_of_lt h64) (by decide)
  have hn : H s1.heap.objs.size = none := I.hok.fresh hz
  have kp : ∀ b o, s.heap.get? b = some o → (sortedHeap (s1.heap.push (seqObj "list" vs.toArray 0)) s1.heap.objs.size vs ((arrOf st').map (·.2))).get? b = some o := fun b u e => by
    have q := k1 b u e
    have hlt := Heap.lt_size q
    rw [sortedHeap_old (Nat.ne_of_lt hlt) (by rw [size_push']; exact Nat.lt_succ_of_lt hlt)]
    exact Heap.get?_push_of_some _ q
  have new : ObjOk X.prog X.w (upd H s1.heap.objs.size (.lst (ys.map V.str))) _ s1.heap.objs.size (.lst (ys.map V.str)) := ⟨hlen, ((arrOf st').map (·.2)).toList, e', vals_of_strs b1, by rw [Array.toArray_toList]; exact he'⟩
  have J : Inv X pins σ (upd H s1.heap.objs.size (.lst (ys.map V.str))) { s with heap := sortedHeap (s1.heap.push (seqObj "list" vs.toArray 0)) s1.heap.objs.size vs ((arrOf st').map (·.2)), gens := s1.gens, drawn := s1.drawn, toks := s1.toks } :=
    I.call (ch := []) (Un.laid kp hz hn) (I.hok.laid kp hz new) (by rw [g1]; exact I.bare) (fun _ z => nomatch z)
  refine wpAny_pure ⟨_, rfl, ?_⟩
  have ee : ({ s1 with heap := sortedHeap (s1.heap.push (seqObj "list" vs.toArray 0)) s1.heap.objs.size vs ((arrOf st').map (·.2)) } : Shared) = { s with heap := sortedHeap (s1.heap.push (seqObj "list" vs.toArray 0)) s1.heap.objs.size vs ((arrOf st').map (·.2)), gens := s1.gens, drawn := s1.drawn, toks := s1.toks } := by
    cases s1
    cases s
    cases o1
    rfl
  show EP X pins σ Q (.ref s1.heap.objs.size) { s1 with heap := sortedHeap (s1.heap.push (seqObj "list" vs.toArray 0)) s1.heap.objs.size vs ((arrOf st').map (·.2)) }
  rw [ee]
  exact ⟨.ref s1.heap.objs.size, _, J, rfl, q ys _ (b2.trans perm) b3 hn⟩
end
end Gd

set_option Elab.async false
set_option linter.all false
set_option maxRecDepth 100000
set_option maxHeartbeats 4000000
/-! a dict comprehension over a list; texts in their order -/
namespace Gd
open PySem PySem.Spec PyProof.Rows L2
abbrev DcTurn (g : TG) (tt : TT) (tk tv : TE) (vs : List Nat) (σ : L2.St) (D : Addr) (Nx : Hp → Prop) (x : V) (H' : Hp) : Prop := g x (wipe σ vs) H' fun σ2 H2 => wipe σ2 vs = wipe σ vs ∧ tt σ2 H2 fun b H3 =>
  if b = true then tk σ2 H3 fun y H4 => tv σ2 H4 fun z H5 => ∃ kvs k, y = kV k ∧ H5 D = some (.dK kvs) ∧ kvs.length < sizeLine ∧ Nx (upd H5 D (.dK (putK kvs k z))) else Nx H3
theorem dc_list {K : PySem.W.Frag} {a D : Addr} {xs : List V} {g : TG} {tt : TT} {tk tv : TE} {vs : List Nat} {σ : L2.St} {H1 : Hp} {Qd : Hp → Prop} (Pv : Nat → Hp → Prop) (h0 : Pv 0 (upd H1 D (.dK []))) (hq : ∀ i H, Pv i H → SqL K H a xs)
    (hs : ∀ (i : Nat) (x : V) (H : Hp), xs[i]? = some x → Pv i H → DcTurn g tt tk tv vs σ D (Pv (i + 1)) x H) (hd : ∀ H, Pv xs.length H → Qd H) :
    ∃ W : Nat → Nat → Hp → Prop, (∃ m, W 0 m (upd H1 D (.dK []))) ∧ ∀ i m H, W i m H → ((Itl K a).stop i H ∧ Qd H) ∨ ((Itl K a).go i H ∧ ∃ Nx : Hp → Prop, (∀ H', Nx H' → ∃ m', m' < m ∧ W (i + 1) m' H') ∧
      ∀ x H', (Itl K a).yld i H x H' → DcTurn g tt tk tv vs σ D Nx x H') := by
  refine ⟨fun i m H => m + i = xs.length ∧ Pv i H, ⟨xs.length, rfl, h0⟩, fun i m H ⟨hm, p⟩ => ?_⟩
  have q := hq i H p
  by_cases hlt : i < xs.length
  · refine .inr ⟨⟨xs, xs[i], q, List.getElem?_eq_getElem hlt⟩, Pv (i + 1), fun H' p' => ⟨m - 1, by omega, by omega, p'⟩, fun x H' y => ?_⟩
    obtain ⟨rfl, y⟩ := y
    exact hs i x _ (y xs q) p
  · have e : i = xs.length := by omega
    subst e
    exact .inl ⟨⟨xs, q, Nat.le_refl _⟩, hd H p⟩

/-! ### one order of texts -/
theorem str_ext {x y : Str} (h : x.cps.toList = y.cps.toList) : x = y := by
  cases x; cases y
  simp at h
  rw [h]
theorem not_lt_both {a b : List Nat} (h1 : ltCps a b = false) (h2 : ltCps b a = false) : a = b := by
  have e1 : ∀ x y : List Nat, ltCps x y = decide (x < y) := fun x y => by
    first | rfl | exact ltCps_eq x y | exact ltCps_decide x y
  rw [e1] at h1 h2
  have n1 := of_decide_eq_false h1
  have n2 := of_decide_eq_false h2
  exact strKind.total a b (decide_eq_false n1) (decide_eq_false n2)
def leS (x y : Str) : Prop := ltCps y.cps.toList x.cps.toList = false
theorem leS_trans {x y z : Str} (h1 : leS x y) (h2 : leS y z) : leS x z := by
  unfold leS at *
  rw [ltCps_eq] at *
  have k := strKind.negTrans z.cps.toList y.cps.toList x.cps.toList
  cases e : decide (z.cps.toList < x.cps.toList) with
  | false => rfl
  | true =>
    rcases k e with q | q
    · exact absurd (h2.symm.trans q) Bool.false_ne_true
    · exact absurd (h1.symm.trans q) Bool.false_ne_true
theorem leS_anti {x y : Str} (h1 : leS x y) (h2 : leS y x) : x = y := str_ext (not_lt_both h2 h1)
theorem rising_pw : ∀ (l : List Str) (p : Str), risingS p l = true → (∀ x ∈ l, leS p x) ∧ l.Pairwise leS
  | [], p, _ => ⟨fun _ h => (nomatch h), .nil⟩
  | x :: r, p, h => by
    simp only [risingS, Bool.and_eq_true, Bool.not_eq_true'] at h
    obtain ⟨a, b⟩ := rising_pw r x h.2
    refine ⟨fun y hy => ?_, List.pairwise_cons.mpr ⟨a, b⟩⟩
    rcases List.mem_cons.mp hy with rfl | hy
    · exact h.1
    · exact leS_trans h.1 (a y hy)
theorem sortedS_pw {l : List Str} (h : sortedS l = true) : l.Pairwise leS := by
  cases l with
  | nil => exact .nil
  | cons x r => exact List.pairwise_cons.mpr (rising_pw r x h)
theorem pw_one : ∀ {a b : List Str}, a.Perm b → a.Pairwise leS → b.Pairwise leS → a = b
  | [], b, p, _, _ => (List.Perm.nil_eq p)
  | x :: r, [], p, _, _ => (List.Perm.eq_nil p)
  | x :: r, y :: t, p, h1, h2 => by
    obtain ⟨a1, a2⟩ := List.pairwise_cons.mp h1
    obtain ⟨b1, b2⟩ := List.pairwise_cons.mp h2
    have e : x = y := by
      rcases List.mem_cons.mp (p.mem_iff.mp List.mem_cons_self) with e | m1
      · exact e
      · rcases List.mem_cons.mp (p.mem_iff.mpr (List.mem_cons_self (a := y) (l := t))) with e | m2
        · exact e.symm
        · exact leS_anti (a1 y m2) (b1 x m1)
    subst e
    rw [pw_one p.cons_inv a2 b2]
theorem sortedS_one {a b : List Str} (n1 : a.Nodup) (n2 : b.Nodup) (h1 : sortedS a = true) (h2 : sortedS b = true) (hm : ∀ x, x ∈ a ↔ x ∈ b) : a = b :=
  pw_one ((List.perm_ext_iff_of_nodup n1 n2).mpr hm) (sortedS_pw h1) (sortedS_pw h2)
end Gd

set_option Elab.async false
set_option linter.all false
set_option maxRecDepth 100000
set_option maxHeartbeats 4000000
/-! def f(a, .., *v, d = x, ..), called by positions alone -/
namespace Gd
open PySem PySem.Spec PyProof.Rows L2 StX
/-- t looks the names up in the dict at D, one behind another, and goes on as r -/
def KwC {α : Type} (D : Addr) : List (Str × Value) → Sem α → Sem α → Prop
  | [], t, r => t = r
  | q :: l, t, r => ∃ (β γ : Type) (k1 : Option Value → Sem β) (k2 : β → Sem γ) (k3 : γ → Sem α) (a : β), t = ((nsGet D q.1 >>= k1) >>= k2) >>= k3 ∧ k1 (some q.2) = pure a ∧ KwC D l (k2 a >>= k3) r
theorem kwc_run {α : Type} {K : PySem.W.Frag} {M : Model} {D : Addr} {A : Around} {E : Value → Shared → Prop} {Q : α → Shared → Prop} {s : Shared} (kin : K.In s.heap) :
    ∀ {l : List (Str × Value)} {t r : Sem α}, (∀ q ∈ l, PySem.W.nsIn K D q.1 = some (some q.2)) → KwC D l t r → wpAny M A r Q E s → wpAny M A t Q E s
  | [], _, _, _, e, h => by rw [show _ = _ from e]; exact h
  | q :: l, _, _, hl, e, h => by
    obtain ⟨β, γ, k1, k2, k3, a, e1, e2, e3⟩ := e
    have lk : PySem.W.Looks M s.heap (nsGet D q.1 >>= k1) a := (PySem.W.looks_nsIn kin (hl q List.mem_cons_self)).andThen (PySem.W.Looks.of_pure e2)
    rw [e1, bind_assoc]
    exact wpAny_bind (lk.here (kwc_run kin (fun p hp => hl p (List.mem_cons_of_mem _ hp)) e3 h))
section
variable {P : Program} {w : World} {K : PySem.W.Frag} {mg : Str → Option Value} {base : Heap} {k : Nat} {f : Addr} {name qual : Str} {params : Arguments} {body : List Stmt} {scope : Scope} {kws : List (Str × V)} {fd : FuncData} {N ps : List Str} {pv : Str} {sp : Sp}
theorem fn_starD (F : FunD K name qual params body scope [] kws f fd) (hk : kws ≠ []) (S : FnScope N (ps ++ kws.map (·.1) ++ [pv]) scope)
    (hb : ∀ (D : Addr) (doc pm : Value) (an : Option Addr) (cdv ct : Value) (us rest mv : List Value), us.length = ps.length → mv.length = kws.length →
      KwC D ((kws.map (·.1)).zip mv) (bindArgs (PySem.W.fnOf name qual params body scope .none (.ref D) doc pm an cdv ct) ⟨us ++ rest, []⟩) (newTuple rest >>= fun t => pure (ps.zip us ++ (kws.map (·.1)).zip mv ++ [(pv, t)])))
    (bd : ∀ (cdv : Value) (A : Around) (out : List Env) (t : Shared) (G : Hp) (as : List V) (R : VK) (X : XK), Room k (A.deeper (envOfC qual scope t.heap.objs.size f cdv)) → sp as G R X →
      ∃ rd, PSs (cxOf CX0 P w K mg base N qual scope f cdv A out t G X).nox body rd ∧ rd { nx := fun _ G' => R .non G', rt := R } (start N as) G) :
    FnR P w K mg base CX0 (k + 1) f (fun vs H Q E => ∃ ws rest, vs = ws ++ rest ∧ ws.length = ps.length ∧ rest.length ≤ sizeLine ∧ ∀ p, H p = none → sp (ws ++ kws.map (·.2) ++ [.ref p]) (upd H p (.tup rest)) Q E) := by
  obtain ⟨oc, od, dV, kV, doc, pm, an, cdv, ct, osl, rfl, lk, hcd, hD, hK⟩ := F.ex
  rcases hD with ⟨_, rfl⟩ | ⟨e, _⟩
  rotate_left
  · exact absurd rfl e
  rcases hK with e | ⟨D, rfl, hq⟩
  · exact absurd e hk
  obtain ⟨mv, ml, mr, mq⟩ := kwd_vals hq
  intro A out s H us vs Q E hr e0 r hsp
  obtain ⟨ws, rest, rfl, hl, hz, hp⟩ := hsp
  obtain ⟨u1, u2, rfl, r1, r2⟩ := vals_split r
  have kin : K.In s.heap := e0.mod.kin.keeps fun b o e => (e0.bs b o e).1
  have hn : H s.heap.objs.size = none := e0.hok.fresh (Nat.le_refl _)
  have l1 : u1.length = ps.length := by rw [← r1.length]; exact hl
  have l2 : u2.length ≤ sizeLine := by rw [← r2.length]; exact hz
  refine run_bnd (CX := CX0) lk hcd S hr e0 (G := fun xs H2 => ∃ p, H p = none ∧ xs = ws ++ kws.map (·.2) ++ [V.ref p] ∧ H2 = upd H p (.tup rest)) (fun A' Ex Q' h => ?_) fun s2 H2 xs ⟨p, h1, h2, h3⟩ hr' => ?_
  · refine kwc_run kin mq (hb D doc pm an cdv ct u1 u2 mv l1 ml) (wpAny_bind (wpAny_newTuple (wpAny_pure ?_) l2))
    have new : ObjOk P w (upd H s.heap.objs.size (.tup rest)) (s.heap.push ({ cls := .type "tuple", data := .seq u2.toArray } : Obj)) s.heap.objs.size (.tup rest) :=
      ⟨hz, u2, r2, ⟨_, Heap.get?_push_size _ rfl, rfl, _, rfl⟩⟩
    have z := h _ _ (ws ++ kws.map (·.2) ++ [V.ref s.heap.objs.size]) (u1 ++ mv ++ [Value.ref s.heap.objs.size]) (env0_laid e0 new) (un_laid hn) rfl (fun e s' q => q) ((r1.append mr).append (.cons rfl .nil))
      (by simp only [List.length_append, List.length_map, hl]; rfl) ⟨_, hn, rfl, rfl⟩
    rw [List.zip_append (by rw [List.length_append, List.length_append, List.length_map, l1, ml]), List.zip_append (by rw [l1])] at z
    exact z
  · subst h2 h3
    obtain ⟨rd, q1, q2⟩ := bd cdv A out s2 _ _ Q E hr' (hp p h1)
    exact ⟨rd, PSs.nox q1, q2⟩
end
section
variable {X : Cx} {k : Nat} {f : Addr} {sp : Sp} {x : Str} {p pos : Pos} {e : Expr} {es : List Expr} {t : TA}
/-- f(a, ..), by a promise of positions -/
theorem pe_r (F : FnR X.prog X.w X.K X.mg X.base CX0 k f sp) (hr : Room k X.A) (hg : Gl X x) (hm : X.mg x = some (.ref f)) (hk : PySem.W.keepIn X.K (.ref f) = true) (ha : PA X (e :: es) t)
    (hdb : (x == ("__debug__" : Str)) = false := by decide) (hse : starEach (e :: es) X.env = (false, eval e X.env) :: starEach es X.env := by rfl)
    (hno : (backTo pos (starEach es X.env)).any (·.1) = false := by rfl) : PE X (.Call (.Name x p) (e :: es) [] pos) (tCall sp [] E0 t) := by
  refine ⟨fun pins s σ H Q I h => wpAny_Call_Name_kw (ld_glob I hg hm ?_ hdb)⟩
  refine PySem.W.callWith_K (h₀ := X.base) I.ok.mod.kin hk (thn (ha.run pos pins s σ H _ I h) (fun us s1 hz => ?_)) hse hno
  obtain ⟨vs, H1, I1, r, q⟩ := hz
  rw [List.append_nil] at q
  exact ⟨I1.kIn, wpAny_call (run_fnR F hr pass0 I1 r q)⟩
end
end Gd

set_option Elab.async false
set_option linter.all false
set_option maxRecDepth 100000
set_option maxHeartbeats 4000000
namespace Pre
open PySem PySem.Spec PyProof.Rows L2 Gd
def topS (i : Nat) : Stmt := PySem.Challenge.pw_holdlevels_k02_sections_and_locks.main.body.getD i (.Pass ⟨0, 0, 0, 0⟩)
theorem tyx_t {K : PySem.W.Frag} {H : Hp} {t : Addr} {xs : List V} (h : SqT K H t xs) : TyX K H (.ref t) (.type "tuple") := by
  rcases h with (h | ⟨o, h⟩) | ⟨o, its, n, hk, hc, _⟩
  · exact .base (.tup h)
  · exact .fTuple h
  · exact .kTuple hk hc
theorem itd {p A B : Prop} [Decidable p] (hp : p) (h : A) : if decide p = true then A else B := by rw [if_pos (decide_eq_true hp)]; exact h
theorem itdF {p A B : Prop} [Decidable p] (hp : ¬ p) (h : B) : if decide p = true then A else B := by rw [if_neg (by rw [decide_eq_false hp]; exact Bool.false_ne_true)]; exact h
theorem fm {a b : Int} (h : 0 < b) : 0 ≤ a.fmod b ∧ a.fmod b < b := ⟨Int.fmod_nonneg_of_pos a h, Int.fmod_lt_of_pos a h⟩
theorem fm64 {a b c : Int} (h : 0 < b) (h2 : b ≤ 2 ^ 64) : CMul (a.fmod b) c := by
  have := fm (a := a) h
  exact Or.inl ⟨by omega, by omega⟩
local macro_rules | `(tactic| walk_at "side") => `(tactic| ((try dsimp only); first | exact rfl | decide | omega | exact Nat.le_of_ble_eq_true rfl | exact Or.inl ⟨by decide, by decide⟩ | exact Or.inr ⟨by decide, by decide⟩ | exact ⟨by decide, by decide⟩ | exact ⟨by omega, by omega⟩ | exact fm64 (by decide) (by decide) | exact ⟨by decide, by decide, by decide⟩ | decide +kernel | exact ⟨by decide +kernel, by decide +kernel⟩))
local macro_rules | `(tactic| walk_at "go") => `(tactic| repeat (first | refine ⟨_, rfl, ?_⟩ | refine ⟨_, _, rfl, rfl, ?_⟩ | refine ⟨_, _, rfl, ?_⟩ | refine Or.inl ⟨_, rfl, ?_⟩ | refine Or.inr ⟨_, rfl, ?_⟩ | refine ⟨_, _, _, _, rfl, rfl, by first | assumption | exact SqL.of upd_same | exact upd_same, by rfl, ?_⟩ | refine And.intro (by walk_at "side") ?_))

/-! ### a stream of draws -/
def stm (x y z : Int) : HO := .lst [.int x, .int y, .int z]
/-- a stream stands at a -/
def Stm (a : Addr) (H : Hp) : Prop := ∃ x y z : Int, 0 ≤ x ∧ H a = some (stm x y z)
/-- all but what stands at a is as it was, a stream is there still -/
structure Nxt (a : Addr) (H H' : Hp) : Prop where
  off : ∀ b o, b ≠ a → H b = some o → H' b = some o
  st : Stm a H'
theorem Nxt.refl {a : Addr} {H : Hp} (h : Stm a H) : Nxt a H H := ⟨fun _ _ _ e => e, h⟩
theorem Nxt.trans {a : Addr} {H H1 H2 : Hp} (x : Nxt a H H1) (y : Nxt a H1 H2) : Nxt a H H2 := ⟨fun b o n e => y.off b o n (x.off b o n e), y.st⟩
theorem Nxt.draw {a : Addr} {H : Hp} {x y z : Int} (h : 0 ≤ x) : Nxt a H (upd H a (stm x y z)) := ⟨fun b o n e => by rw [upd_ne n]; exact e, x, y, z, h, upd_same⟩
theorem Nxt.add {a p : Addr} {H : Hp} {o : HO} (s : Stm a H) (hp : H p = none) : Nxt a H (upd H p o) := by
  obtain ⟨x, y, z, h, e⟩ := s
  have n : a ≠ p := ne_of_none e hp
  exact ⟨fun b u _ e => by rw [upd_ne (ne_of_none e hp)]; exact e, x, y, z, h, by rw [upd_ne n]; exact e⟩
theorem Nxt.free {a p : Addr} {H H' : Hp} (x : Nxt a H H') (hp : H' p = none) : H p = none ∧ p ≠ a := by
  have n : p ≠ a := fun e => by
    obtain ⟨_, _, _, _, q⟩ := x.st
    rw [e, q] at hp
    cases hp
  refine ⟨?_, n⟩
  cases q : H p with
  | none => rfl
  | some o => rw [x.off p o n q] at hp; cases hp
theorem Stm.ne {a p : Addr} {H : Hp} (s : Stm a H) (hp : H p = none) : p ≠ a := fun e => by
  obtain ⟨_, _, _, _, z⟩ := s
  rw [e, z] at hp
  cases hp
/-- an object that came behind H may change -/
theorem Nxt.put {a p : Addr} {H H' : Hp} {o : HO} (x : Nxt a H H') (hp : H p = none) (n : p ≠ a) : Nxt a H (upd H' p o) := by
  obtain ⟨u, v, w, h, e⟩ := x.st
  exact ⟨fun b c nb eb => by rw [upd_ne (ne_of_none eb hp)]; exact x.off b c nb eb, u, v, w, h, by rw [upd_ne n.symm]; exact e⟩

section
variable {P : Program} {w : World} {K : PySem.W.Frag} {mg : Str → Option Value} {base : Heap}
/-- the built-ins by their names -/
structure Bts (mg : Str → Option Value) : Prop where
  len : mg "len" = none
  int : mg "int" = none
  abs : mg "abs" = none
  max : mg "max" = none
  list : mg "list" = none
  range : mg "range" = none
  tuple : mg "tuple" = none
  enumerate : mg "enumerate" = none
  str : mg "str" = none
  bool : mg "bool" = none
  isinstance : mg "isinstance" = none
  all : mg "all" = none
  zip : mg "zip" = none
  sorted : mg "sorted" = none
  dict : mg "dict" = none
  set : mg "set" = none
  repr : mg "repr" = none
  min : mg "min" = none
  sum : mg "sum" = none
  any : mg "any" = none

/-- a constant of the module -/
def Kst (mg : Str → Option Value) (x : Str) (v : V) : Prop := ∃ u, mg x = some u ∧ RelV v u
theorem pe_k {X : Cx} {x : Str} {v : V} {pos : Pos} (h : Kst X.mg x v) (hg : Gl X x := by rfl) (hdb : (x == ("__debug__" : Str)) = false := by decide) : PE X (.Name x pos) (tC v) := by
  obtain ⟨u, hm, r⟩ := h
  exact pe_glob hg hm r hdb
/-- a def of the top with its promise -/
def Cal (P : Program) (w : World) (K : PySem.W.Frag) (mg : Str → Option Value) (base : Heap) (x : Str) (k : Nat) (ps : List Str) (sp : Sp) : Prop :=
  ∃ f fd, FnOk P w K mg base CX0 k f fd ps sp ∧ mg x = some (.ref f) ∧ PySem.W.keepIn K (.ref f) = true ∧ Binds K fd ps []
theorem pe_c {X : Cx} {x : Str} {k : Nat} {ps : List Str} {sp : Sp} {p pos : Pos} {e : Expr} {es : List Expr} {t : TA} (C : Cal X.prog X.w X.K X.mg X.base x k ps sp) (hr : Room k X.A) (ha : PA X (e :: es) t) (hg : Gl X x := by rfl)
    (hdb : (x == ("__debug__" : Str)) = false := by decide) (he : starEach (e :: es) X.env = (false, eval e X.env) :: starEach es X.env := by rfl) (hpl : (backTo pos (starEach es X.env)).any (·.1) = false := by rfl) :
    PE X (.Call (.Name x p) (e :: es) [] pos) (tCall sp [] E0 t) := by
  obtain ⟨f, fd, F, hm, hk, hb⟩ := C
  exact pe_call F hr hg hm hk hb .nil pass0 ha hdb he hpl

/-! ### _law_stream -/
def spStream (K : PySem.W.Frag) : Sp := fun vs H Q _ => ∃ (a : Addr) (ns : List Int) (i : Nat), vs = [.ref a, .int (i : Int)] ∧ SqL K H a (ns.map V.int) ∧
  ∀ p x y, 0 ≤ x → H p = none → Q (.ref p) (upd H p (stm x y 0))
abbrev st__law_stream : Stmt := topS 28
theorem sc__law_stream : FnScope ["script", "at", "cell", "great", "mixed"] ["script", "at"] (defScope st__law_stream) := ⟨rfl, rfl, rfl, by decide +kernel, rfl, by decide +kernel, by decide +kernel⟩
theorem ok_stream {f : Addr} {fd : FuncData} (F : Fun K "_law_stream" "_law_stream" st__law_stream f fd) (B : Bts mg) : FnOk P w K mg base CX0 1 f fd ["script", "at"] (spStream K) := by
  refine F.ok sc__law_stream (fun vs H Q E h => ?_) (fun cdv A outer s H vs Q E hr h => ?_)
  · obtain ⟨a, ns, i, rfl, _⟩ := h; rfl
  · obtain ⟨a, ns, i, rfl, hS, q⟩ := h
    refine ⟨_, (pss_cons (ps_set (i := 2) sc__law_stream.nd rfl (by first | exact Or.inl rfl | exact Or.inr rfl) (pe_op op_add (pe_op op_mul pe_int (pv 1)) pe_int))
  (pss_cons (ps_if (pt_cmpR op_lt (pv 1) (pe_callB (k_len (K := K) rfl) (by rfl) B.len (by decide +kernel) (pa_cons (pv 0) pa_nil)) (nomark _)) (pss_one (ps_set (i := 2) sc__law_stream.nd rfl (by first | exact Or.inl rfl | exact Or.inr rfl) (pe_ix (kx_list (K := K) rfl) (pv 0) (pv 1) (fun _ _ => rfl)))) pss_nil)
  (pss_cons (ps_set (i := 3) sc__law_stream.nd rfl (by first | exact Or.inl rfl | exact Or.inr rfl) (pe_op op_modN (pe_callTy call_int1 (by rfl) B.int (by decide +kernel) (pa_cons (pe_callB call_abs (by rfl) B.abs (by decide +kernel) (pa_cons (pv 2) pa_nil)) pa_nil)) (pe_op op_powW (pe_op op_pow pe_int pe_int) pe_int)))
  (pss_cons (ps_set (i := 4) sc__law_stream.nd rfl (by first | exact Or.inl rfl | exact Or.inr rfl) (pe_op op_add (pe_op op_add (pe_op op_add (pe_op op_mul (pe_op op_modN (pe_callTy call_int1 (by rfl) B.int (by decide +kernel) (pa_cons (pv 3) pa_nil)) pe_int) pe_int) (pe_op op_mul pe_int (pv 1))) (pe_op op_mul pe_int (pe_callTy call_int1 (by rfl) B.int (by decide +kernel) (pa_cons (pe_cmpR op_lt (pv 2) pe_int (nomark _)) pa_nil)))) pe_int))
  (pss_one (ps_ret (pe_lst (pa_cons (pe_callB (call_max2 rfl) (by rfl) B.max (by decide +kernel) (pa_cons pe_int (pa_cons (pe_op op_sub (pv 3) (pe_op op_pow pe_int pe_int)) pa_nil))) (pa_cons (pe_op op_modN (pe_callTy call_int1 (by rfl) B.int (by decide +kernel) (pa_cons (pv 4) pa_nil)) pe_int) (pa_cons pe_int pa_nil)))))))))), ?_⟩
    walk_at "go"
    refine ⟨a, _, rfl, .inl hS, ?_⟩
    walk_at "go"
    refine ite2 (fun c => ?_) (fun c => ?_)
    · walk_at "go"
      have c' : i < ns.length := by simpa using of_decide_eq_true c
      refine ⟨a, ns.map V.int, i, .int ns[i], rfl, rfl, hS, atI_nat (by rw [List.getElem?_map, List.getElem?_eq_getElem c']; rfl), ?_⟩
      walk_at "go"
      intro p hp
      exact q p _ _ (by split <;> omega) hp
    · walk_at "go"
      intro p hp
      exact q p _ _ (by split <;> omega) hp

/-! ### _law_draw -/
def spDraw : Sp := fun vs H Q _ => ∃ (a : Addr) (n : Int), vs = [.ref a, .int n] ∧ Stm a H ∧ 0 < n ∧ n < 1073741824 ∧
  ∀ r x y z : Int, 0 ≤ r → r < n → 0 ≤ x → Q (.int r) (upd H a (stm x y z))
abbrev st__law_draw : Stmt := topS 29
theorem sc__law_draw : FnScope ["stream", "high", "one", "two", "found"] ["stream", "high"] (defScope st__law_draw) := ⟨rfl, rfl, rfl, by decide +kernel, rfl, by decide +kernel, by decide +kernel⟩
theorem ok_draw {f : Addr} {fd : FuncData} (F : Fun K "_law_draw" "_law_draw" st__law_draw f fd) (B : Bts mg) : FnOk P w K mg base CX0 1 f fd ["stream", "high"] spDraw := by
  refine F.ok sc__law_draw (fun vs H Q E h => ?_) (fun cdv A outer s H vs Q E hr h => ?_)
  · obtain ⟨a, n, rfl, _⟩ := h; rfl
  · obtain ⟨a, n, rfl, ⟨x, y, z, hx, ha⟩, hn, hn2, q⟩ := h
    have hS : SqL K H a [.int x, .int y, .int z] := SqL.of ha
    refine ⟨_, (pss_cons (ps_if (pt_cmpR op_gt (pe_ix (kx_list (K := K) rfl) (pv 0) pe_int (fun _ _ => rfl)) pe_int (nomark _)) (pss_cons (ps_set (i := 4) sc__law_draw.nd rfl (by first | exact Or.inl rfl | exact Or.inr rfl) (pe_op op_modN (pe_callTy call_int1 (by rfl) B.int (by decide +kernel) (pa_cons (pe_ix (kx_list (K := K) rfl) (pv 0) pe_int (fun _ _ => rfl)) pa_nil)) (pv 1)))
    (pss_cons (ps_asg (pe_op op_fdivN (pe_ix (kx_list (K := K) rfl) (pv 0) pe_int (fun _ _ => rfl)) (pv 1)) (pg_sub (pv 0) pe_int set_list))
    (pss_one (ps_ret (pv 4))))) pss_nil)
  (pss_cons (ps_asg (pe_op op_add (pe_ix (kx_list (K := K) rfl) (pv 0) pe_int (fun _ _ => rfl)) pe_int) (pg_sub (pv 0) pe_int set_list))
  (pss_cons (ps_set (i := 2) sc__law_draw.nd rfl (by first | exact Or.inl rfl | exact Or.inr rfl) (pe_op op_modN (pe_callTy call_int1 (by rfl) B.int (by decide +kernel) (pa_cons (pe_op op_add (pe_ix (kx_list (K := K) rfl) (pv 0) pe_int (fun _ _ => rfl)) (pe_op op_mul pe_int (pe_ix (kx_list (K := K) rfl) (pv 0) pe_int (fun _ _ => rfl)))) pa_nil)) pe_int))
  (pss_cons (ps_set (i := 3) sc__law_draw.nd rfl (by first | exact Or.inl rfl | exact Or.inr rfl) (pe_op op_add (pe_op op_mul (pe_op op_modN (pe_callTy call_int1 (by rfl) B.int (by decide +kernel) (pa_cons (pe_op op_mul (pv 2) (pv 2)) pa_nil)) pe_int) (pv 2)) (pe_op op_mul pe_int (pe_ix (kx_list (K := K) rfl) (pv 0) pe_int (fun _ _ => rfl)))))
  (pss_cons (ps_set (i := 3) sc__law_draw.nd rfl (by first | exact Or.inl rfl | exact Or.inr rfl) (pe_op op_modN (pe_callTy call_int1 (by rfl) B.int (by decide +kernel) (pa_cons (pv 3) pa_nil)) pe_int))
  (pss_one (ps_ret (pe_op op_modN (pe_callTy call_int1 (by rfl) B.int (by decide +kernel) (pa_cons (pe_op op_fdivN (pv 3) pe_int) pa_nil)) (pv 1))))))))), ?_⟩
    walk_at "go"
    refine ite2 (fun c => ?_) (fun c => ?_)
    · walk_at "go"
      exact q _ _ y z (fm hn).1 (fm hn).2 (Int.fdiv_nonneg hx (by omega))
    · walk_at "go"
      exact q _ x y (z + 1) (fm hn).1 (fm hn).2 hx

/-! ### _law_pick -/
theorem ixN_nat {n : Nat} {r : Int} (h0 : 0 ≤ r) (h : r < n) : ixN n r = some r.toNat := by
  unfold ixN
  rw [if_pos h0, if_pos h]
theorem atI_int {α : Type} {xs : List α} {r : Int} {v : α} (h0 : 0 ≤ r) (h : xs[r.toNat]? = some v) : atI xs r = some v := by
  have e : ((r.toNat : Nat) : Int) = r := Int.toNat_of_nonneg h0
  have := atI_nat h
  rw [e] at this
  exact this
theorem seq_off {a p : Addr} {H H' : Hp} {xs : List V} (s : Stm a H) (x : Nxt a H H') (h : SqT K H p xs) : SqT K H' p xs := by
  obtain ⟨_, _, _, _, e⟩ := s
  rcases h with (h | ⟨o, h⟩) | h
  · exact .inl (.inl (x.off _ _ (ne_of h e (fun z => nomatch z)) h))
  · exact .inl (.inr ⟨o, x.off _ _ (ne_of h e (fun z => nomatch z)) h⟩)
  · exact .inr h
theorem lst_off {a p : Addr} {H H' : Hp} {xs : List V} (n : p ≠ a) (x : Nxt a H H') (h : SqL K H p xs) : SqL K H' p xs := by
  rcases h with (h | ⟨o, h⟩) | h
  · exact .inl (.inl (x.off _ _ n h))
  · exact .inl (.inr ⟨o, x.off _ _ n h⟩)
  · exact .inr h
/-- a list apart from the stream, or a tuple -/
def Sq (K : PySem.W.Frag) (a : Addr) (H : Hp) (p : Addr) (xs : List V) : Prop := (p ≠ a ∧ SqL K H p xs) ∨ SqT K H p xs
theorem Sq.off {a p : Addr} {H H' : Hp} {xs : List V} (h : Sq K a H p xs) (s : Stm a H) (x : Nxt a H H') : Sq K a H' p xs := by
  rcases h with ⟨n, h⟩ | h
  · exact .inl ⟨n, lst_off n x h⟩
  · exact .inr (seq_off s x h)
theorem Sq.or {a p : Addr} {H : Hp} {xs : List V} (h : Sq K a H p xs) : SqL K H p xs ∨ SqT K H p xs := by
  rcases h with ⟨_, h⟩ | h
  · exact .inl h
  · exact .inr h
def spPick (K : PySem.W.Frag) : Sp := fun vs H Q _ => ∃ (a p : Addr) (xs : List V), vs = [.ref a, .ref p] ∧ Stm a H ∧ Sq K a H p xs ∧ 0 < xs.length ∧ xs.length < 1000000 ∧
  ∀ v x y z, v ∈ xs → 0 ≤ x → Q v (upd H a (stm x y z))
abbrev st__law_pick : Stmt := topS 30
theorem sc__law_pick : FnScope ["stream", "items"] ["stream", "items"] (defScope st__law_pick) := ⟨rfl, rfl, rfl, by decide +kernel, rfl, by decide +kernel, by decide +kernel⟩
theorem ok_pick {f : Addr} {fd : FuncData} (F : Fun K "_law_pick" "_law_pick" st__law_pick f fd) (B : Bts mg) (c__law_draw : Cal P w K mg base "_law_draw" 1 ["stream", "high"] spDraw) :
    FnOk P w K mg base CX0 2 f fd ["stream", "items"] (spPick K) := by
  refine F.ok sc__law_pick (fun vs H Q E h => ?_) (fun cdv A outer s H vs Q E hr h => ?_)
  · obtain ⟨a, p, xs, rfl, _⟩ := h; rfl
  · obtain ⟨a, p, xs, rfl, hst, hq, h0, h1, q⟩ := h
    refine ⟨_, (pss_one (ps_ret (pe_ix (kx_seq (K := K) rfl) (pv 1) (pe_c c__law_draw (hr.mono (by decide)) (pa_cons (pv 0) (pa_cons (pe_callB (k_len (K := K) rfl) (by rfl) B.len (by decide +kernel) (pa_cons (pv 1) pa_nil)) pa_nil))) (fun _ _ => rfl)))), ?_⟩
    walk_at "go"
    refine ⟨p, xs, rfl, hq.or, ?_⟩
    refine ⟨a, _, rfl, hst, by omega, by omega, fun r x y z r0 r1 hx => ?_⟩
    have hlt : r.toNat < xs.length := by omega
    have hat : atI xs r = some xs[r.toNat] := atI_int r0 (List.getElem?_eq_getElem hlt)
    have hq' := hq.off hst (Nxt.draw (y := y) (z := z) hx)
    rcases hq'.or with hq' | hq'
    · exact .inl ⟨p, xs, r, _, rfl, rfl, hq', hat, q _ x y z (List.getElem_mem hlt) hx⟩
    · exact .inr (.inl ⟨p, xs, r, _, rfl, rfl, hq', hat, q _ x y z (List.getElem_mem hlt) hx⟩)

/-! ### _law_mixed -/
theorem perm_erase {α : Type} : ∀ (l : List α) (i : Nat) (h : i < l.length), (l[i] :: l.eraseIdx i).Perm l
  | _ :: _, 0, _ => List.Perm.refl _
  | x :: l, i + 1, h => (List.Perm.swap _ _ _).trans (List.Perm.cons x (perm_erase l i (by simpa using h)))
def spMixed (K : PySem.W.Frag) : Sp := fun vs H Q _ => ∃ (a p : Addr) (xs : List V), vs = [.ref a, .ref p] ∧ Stm a H ∧ Sq K a H p xs ∧ xs.length < 1000000 ∧
  ∀ (H' : Hp) (q : Addr) (ys : List V), Nxt a H H' → H q = none → q ≠ a → H' q = some (.lst ys) → ys.Perm xs → Q (.ref q) H'
abbrev st__law_mixed : Stmt := topS 31
theorem sc__law_mixed : FnScope ["stream", "items", "left", "turn"] ["stream", "items"] (defScope st__law_mixed) := ⟨rfl, rfl, rfl, by decide +kernel, rfl, by decide +kernel, by decide +kernel⟩
theorem ok_mixed {f : Addr} {fd : FuncData} (F : Fun K "_law_mixed" "_law_mixed" st__law_mixed f fd) (B : Bts mg) (c__law_draw : Cal P w K mg base "_law_draw" 1 ["stream", "high"] spDraw) :
    FnOk P w K mg base CX0 2 f fd ["stream", "items"] (spMixed K) := by
  refine F.ok sc__law_mixed (fun vs H Q E h => ?_) (fun cdv A outer s H vs Q E hr h => ?_)
  · obtain ⟨a, p, xs, rfl, _⟩ := h; rfl
  · obtain ⟨a, p, xs, rfl, hst, hq, h1, q⟩ := h
    refine ⟨_, (pss_cons (ps_set (i := 2) sc__law_mixed.nd rfl (by first | exact Or.inl rfl | exact Or.inr rfl) (pe_callTy (k_list (K := K) rfl) (by rfl) B.list (by decide +kernel) (pa_cons (pv 1) pa_nil)))
  (pss_one (ps_ret (pe_lc (own := [("turn", 3)]) (g := gName 3) (tt := tYes) rfl sc__law_mixed.nd  (pi_range1 (by rfl) B.range (pa_cons (pe_callB (k_len (K := K) rfl) (by rfl) B.len (by decide +kernel) (pa_cons (pv 1) pa_nil)) pa_nil)) (blkOk_by (own := [("turn", 3)]) (N := ["stream", "items", "left", "turn"]) (sc := defScope st__law_mixed) (by decide +kernel)) (fun _ _ _ _ _ => pg_name (i := 3) sc__law_mixed.nd rfl (by first | exact Or.inl rfl | exact Or.inr rfl)) (fun _ _ _ _ _ => pts_nil) (fun _ _ _ _ _ => (kb_m (K := K) rfl (pe_bm PySem.F.plainAttrs_list PySem.F.slot_list_pop PySem.F.type_list_pop mt_popAt (pv 2) (pa_cons (pe_c c__law_draw (hr.mono (by decide)) (pa_cons (pv 0) (pa_cons (pe_callB (k_len (K := K) rfl) (by rfl) B.len (by decide +kernel) (pa_cons (pv 2) pa_nil)) pa_nil))) pa_nil)))))))), ?_⟩
    walk_at "go"
    refine ⟨p, xs, rfl, hq.or, fun L hL => ?_⟩
    have x1 : Nxt a H (upd H L (.lst xs)) := Nxt.add hst hL
    have nL : L ≠ a := Stm.ne hst hL
    walk_at "go"
    refine ⟨p, xs, rfl, (hq.off hst x1).or, ?_⟩
    walk_at "go"
    refine fun D hD => ?_
    obtain ⟨hDH, nD⟩ := x1.free hD
    have nDL : D ≠ L := fun e => by rw [e, upd_same] at hD; cases hD
    refine lc_range (lo := 0) (n := xs.length) (fun i G => ∃ acc rest, Nxt a H G ∧ G D = some (.lst acc) ∧ G L = some (.lst rest) ∧ (acc ++ rest).Perm xs ∧ rest.length + i = xs.length)
      ⟨[], xs, x1.put hDH nD, upd_same, by rw [upd_ne nDL.symm, upd_same], List.Perm.refl _, rfl⟩ (fun i G hi hp => ?_) (fun G hp => ?_)
    · obtain ⟨acc, rest, hx, hGD, hGL, hperm, hlen⟩ := hp
      refine ⟨rfl, ?_⟩
      walk_at "go"
      have hG : SqL K G L rest := SqL.of hGL
      refine ⟨.inl ⟨rfl, _, hG⟩, ?_⟩
      walk_at "go"
      refine ⟨L, rest, rfl, .inl hG, ?_⟩
      refine ⟨a, _, rfl, hx.st, by omega, by omega, fun r u v z r0 r1 hu => ?_⟩
      have hk : r.toNat < rest.length := by omega
      have x2 : Nxt a G (upd G a (stm u v z)) := Nxt.draw hu
      refine ⟨L, rest, r, r.toNat, rest[r.toNat], rfl, rfl, x2.off _ _ nL hGL, by omega, by omega, (ixN_seq (ixN_nat r0 (by omega))).1, List.getElem?_eq_getElem hk, ?_⟩
      have x3 : Nxt a H (upd (upd G a (stm u v z)) L (.lst (rest.eraseIdx r.toNat))) := (hx.trans x2).put hL nL
      have hlen2 : acc.length + rest.length = xs.length := by have := hperm.length_eq; rw [List.length_append] at this; exact this
      refine ⟨acc, by rw [upd_ne nDL, upd_ne nD]; exact hGD, Nat.lt_of_lt_of_le (by omega) (show 1000000 ≤ sizeLine by decide), acc ++ [rest[r.toNat]], rest.eraseIdx r.toNat, x3.put hDH nD, upd_same, by rw [upd_ne nDL.symm, upd_same], ?_, ?_⟩
      · rw [List.append_assoc]
        exact (List.Perm.append_left acc (perm_erase rest r.toNat hk)).trans hperm
      · rw [List.length_eraseIdx_of_lt hk]
        omega
    · obtain ⟨acc, rest, hx, hGD, hGL, hperm, hlen⟩ := hp
      have : rest = [] := List.eq_nil_of_length_eq_zero (by omega)
      subst this
      exact q G D acc hx hDH nD hGD (by simpa using hperm)

/-! ### _law_names -/
theorem perm_map_inv {l : List Str} {ys : List V} (h : ys.Perm (l.map V.str)) : ∃ zs : List Str, ys = zs.map V.str ∧ zs.Perm l := by
  let g : V → Str := fun v => match v with | .str x => x | _ => ""
  have e1 : (l.map V.str).map g = l := by rw [List.map_map]; exact List.map_id'' (fun _ => rfl) l
  refine ⟨ys.map g, ?_, by have := h.map g; rw [e1] at this; exact this⟩
  have hy : ∀ y ∈ ys, ∃ x, y = V.str x := fun y hm => by
    obtain ⟨x, _, e⟩ := List.mem_map.mp (h.mem_iff.mp hm)
    exact ⟨x, e.symm⟩
  clear h
  induction ys with
  | nil => rfl
  | cons y ys ih =>
    obtain ⟨x, rfl⟩ := hy y List.mem_cons_self
    have := ih fun z hz => hy z (List.mem_cons_of_mem _ hz)
    show V.str x :: ys = V.str x :: (ys.map g).map V.str
    rw [← this]
theorem cut_to (xs : List V) (m : Nat) (h : m ≤ xs.length) : cutV xs none (some (m : Int)) = xs.take m := by
  unfold cutV
  rw [HT.sIx_none, HT.sIx_nat, Nat.min_eq_left h]
  rfl
def names16 : List Str := ["a", "aa", "b", "ba", "car", "d", "gap", "k", "late", "map", "none", "row", "task", "x", "y", "zzzzzzzz"]
def spNames (K : PySem.W.Frag) : Sp := fun vs H Q _ => ∃ (a : Addr) (m : Nat), vs = [.ref a, .int (m : Int)] ∧ Stm a H ∧ m ≤ 16 ∧
  ∀ (H' : Hp) (q : Addr) (ys : List Str), Nxt a H H' → H q = none → q ≠ a → H' q = some (.lst (ys.map V.str)) → ys.length = m → ys.Nodup → (∀ y ∈ ys, y ∈ names16) → Q (.ref q) H'
abbrev st__law_names : Stmt := topS 32
theorem sc__law_names : FnScope ["stream", "much", "some"] ["stream", "much"] (defScope st__law_names) := ⟨rfl, rfl, rfl, by decide +kernel, rfl, by decide +kernel, by decide +kernel⟩
theorem ok_names {f : Addr} {fd : FuncData} (F : Fun K "_law_names" "_law_names" st__law_names f fd) (B : Bts mg) (c__law_mixed : Cal P w K mg base "_law_mixed" 2 ["stream", "items"] (spMixed K)) :
    FnOk P w K mg base CX0 3 f fd ["stream", "much"] (spNames K) := by
  refine F.ok sc__law_names (fun vs H Q E h => ?_) (fun cdv A outer s H vs Q E hr h => ?_)
  · obtain ⟨a, m, rfl, _⟩ := h; rfl
  · obtain ⟨a, m, rfl, hst, hm, q⟩ := h
    refine ⟨_, (pss_cons (ps_set (i := 2) sc__law_names.nd rfl (by first | exact Or.inl rfl | exact Or.inr rfl) (pe_lst (pa_cons pe_str (pa_cons pe_str (pa_cons pe_str (pa_cons pe_str (pa_cons pe_str (pa_cons pe_str (pa_cons pe_str (pa_cons pe_str (pa_cons pe_str (pa_cons pe_str (pa_cons pe_str (pa_cons pe_str (pa_cons pe_str (pa_cons pe_str (pa_cons pe_str pa_nil)))))))))))))))))
  (pss_one (ps_ret (pe_slice sl_list (pe_c c__law_mixed (hr.mono (by decide)) (pa_cons (pv 0) (pa_cons (pe_op op_cat (pv 2) (pe_lst (pa_cons pe_str pa_nil))) pa_nil))) po_none (po_some (pv 1)))))), ?_⟩
    walk_at "go"
    intro p hp
    have x1 : Nxt a H (upd H p (.lst ((names16.take 15).map V.str))) := Nxt.add hst hp
    walk_at "go"
    intro p2 hp2
    have x2 := x1.trans (Nxt.add (o := .lst [.str "zzzzzzzz"]) x1.st hp2)
    have n2 : p ≠ p2 := fun e => by rw [← e, upd_same] at hp2; cases hp2
    refine ⟨p, p2, _, _, rfl, rfl, by rw [upd_ne n2, upd_same], upd_same, Nat.le_of_ble_eq_true rfl, fun p3 hp3 => ?_⟩
    have x3 := x2.trans (Nxt.add (o := .lst (names16.map V.str)) x2.st hp3)
    refine ⟨a, p3, names16.map V.str, rfl, x3.st, .inl ⟨(x2.free hp3).2, SqL.of upd_same⟩, by decide, fun H' L ys hx hL nL hy hperm => ?_⟩
    have x4 := x3.trans hx
    obtain ⟨zs, rfl, hz⟩ := perm_map_inv hperm
    have hl : zs.length = 16 := hz.length_eq
    walk_at "go"
    refine ⟨L, zs.map V.str, rfl, SqL.of hy, fun p5 hp5 => ?_⟩
    have x5 := x4.trans (Nxt.add (o := .lst (cutV (zs.map V.str) none (some (m : Int)))) x4.st hp5)
    have e5 : cutV (zs.map V.str) none (some (m : Int)) = (zs.take m).map V.str := by
      rw [cut_to _ _ (by rw [List.length_map]; omega), List.map_take]
    refine q _ p5 (zs.take m) x5 (x4.free hp5).1 (x4.free hp5).2 (by rw [upd_same, e5]) (by rw [List.length_take]; omega) ?_ ?_
    · exact (List.take_sublist m zs).nodup (hz.nodup_iff.mpr (by decide +kernel))
    · exact fun y hy => hz.mem_iff.mp (List.mem_of_mem_take hy)

/-! ### tuples stay -/
structure TK (H H' : Hp) : Prop where
  t : ∀ b xs, H b = some (.tup xs) → H' b = some (.tup xs)
  f : ∀ b o xs, H b = some (.frz o (.tup xs)) → H' b = some (.frz o (.tup xs))
theorem TK.refl (H : Hp) : TK H H := ⟨fun _ _ e => e, fun _ _ _ e => e⟩
theorem TK.trans {H H1 H2 : Hp} (x : TK H H1) (y : TK H1 H2) : TK H H2 := ⟨fun b xs e => y.t b xs (x.t b xs e), fun b o xs e => y.f b o xs (x.f b o xs e)⟩
theorem TK.nxt {a : Addr} {H H' : Hp} (s : Stm a H) (x : Nxt a H H') : TK H H' := by
  obtain ⟨_, _, _, _, e⟩ := s
  exact ⟨fun b xs h => x.off _ _ (ne_of h e (fun z => nomatch z)) h, fun b o xs h => x.off _ _ (ne_of h e (fun z => nomatch z)) h⟩
theorem TK.new {H : Hp} {p : Addr} {o : HO} (h : H p = none) : TK H (upd H p o) :=
  ⟨fun b xs e => by rw [upd_ne (ne_of_none e h)]; exact e, fun b o xs e => by rw [upd_ne (ne_of_none e h)]; exact e⟩
theorem TK.lst {H : Hp} {p : Addr} {o : HO} {l : List V} (h : H p = some (.lst l)) : TK H (upd H p o) :=
  ⟨fun b xs e => by rw [upd_ne (ne_of e h (fun z => nomatch z))]; exact e, fun b o xs e => by rw [upd_ne (ne_of e h (fun z => nomatch z))]; exact e⟩
theorem TK.seq {H H' : Hp} {p : Addr} {xs : List V} (x : TK H H') (h : SqT K H p xs) : SqT K H' p xs := by
  rcases h with (h | ⟨o, h⟩) | h
  · exact .inl (.inl (x.t _ _ h))
  · exact .inl (.inr ⟨o, x.f _ _ _ h⟩)
  · exact .inr h
mutual
def tupOnly : PyData → Bool
  | .none | .bool _ | .int _ | .str _ => true
  | .tuple xs => tupAll xs
  | _ => false
def tupAll : List PyData → Bool
  | [] => true
  | x :: xs => tupOnly x && tupAll xs
end
theorem tupAll_of {ds : List PyData} (h : ∀ d ∈ ds, tupOnly d = true) : tupAll ds = true := by
  induction ds with
  | nil => rfl
  | cons d ds ih => simp only [tupAll, Bool.and_eq_true]; exact ⟨h d List.mem_cons_self, ih fun x hx => h x (List.mem_cons_of_mem _ hx)⟩
mutual
theorem dp_tk {H H' : Hp} (x : TK H H') : ∀ (d : PyData) (v : V), tupOnly d = true → Dp K H v d → Dp K H' v d
  | .none, _, _, h => by cases h; exact .non
  | .bool b, _, _, h => by cases h; exact .bl b
  | .int i, _, _, h => by cases h; exact .int i
  | .str s, _, _, h => by cases h; exact .str s
  | .list _, _, t, _ => by simp [tupOnly] at t
  | .dict _, _, t, _ => by simp [tupOnly] at t
  | .tuple ds, _, t, h => by
    cases h with
    | tup hs ha => exact .tup (x.seq hs) (dpAll_tk x ds _ (by simpa [tupOnly] using t) ha)
theorem dpAll_tk {H H' : Hp} (x : TK H H') : ∀ (ds : List PyData) (vs : List V), tupAll ds = true → DpAll K H vs ds → DpAll K H' vs ds
  | [], _, _, h => by cases h; exact .nil
  | d :: ds, _, t, h => by
    simp only [tupAll, Bool.and_eq_true] at t
    cases h with
    | cons h1 h2 => exact .cons (dp_tk x d _ t.1 h1) (dpAll_tk x ds _ t.2 h2)
end
theorem dpAll_snoc {H : Hp} : ∀ {vs : List V} {ds : List PyData} {v : V} {d : PyData}, DpAll K H vs ds → Dp K H v d → DpAll K H (vs ++ [v]) (ds ++ [d])
  | _, _, _, _, .nil, h => .cons h .nil
  | _, _, _, _, .cons a b, h => .cons a (dpAll_snoc b h)

/-! ### _law_sections -/
abbrev Sec := Int × Int × Str
def secD (s : Sec) : PyData := .tuple [.int s.1, .int s.2.1, .str s.2.2]
structure SecsOk (secs : List Sec) (lo high : Int) (locks : List Str) : Prop where
  each : ∀ s ∈ secs, 0 ≤ s.1 ∧ s.1 < s.2.1 ∧ s.2.1 < high ∧ s.2.2 ∈ locks ∧ s.2.1 ≤ lo
  apart : secs.Pairwise fun s t => s.2.1 ≤ t.1
theorem SecsOk.snoc {secs : List Sec} {lo high b e : Int} {l : Str} {locks : List Str} (h : SecsOk secs lo high locks) (h0 : 0 ≤ lo) (h1 : lo ≤ b) (h2 : b < e) (h3 : e < high) (hl : l ∈ locks) : SecsOk (secs ++ [(b, e, l)]) e high locks := by
  refine ⟨fun s hs => ?_, ?_⟩
  · rcases List.mem_append.mp hs with hs | hs
    · have := h.each s hs; exact ⟨this.1, this.2.1, this.2.2.1, this.2.2.2.1, by omega⟩
    · rw [List.mem_singleton] at hs; subst hs; exact ⟨by dsimp only; omega, h2, h3, hl, by dsimp only; omega⟩
  · refine List.pairwise_append.mpr ⟨h.apart, List.pairwise_singleton _ _, fun s hs t ht => ?_⟩
    rw [List.mem_singleton] at ht; subst ht
    have := h.each s hs
    dsimp only; omega
theorem SecsOk.up {secs : List Sec} {lo lo' high : Int} {locks : List Str} (h : SecsOk secs lo high locks) (h1 : lo ≤ lo') : SecsOk secs lo' high locks :=
  ⟨fun s hs => by have := h.each s hs; exact ⟨this.1, this.2.1, this.2.2.1, this.2.2.2.1, by omega⟩, h.apart⟩
theorem secs_tup (secs : List Sec) : tupAll (secs.map secD) = true := tupAll_of fun d hd => by
  obtain ⟨s, _, rfl⟩ := List.mem_map.mp hd
  rfl
def spSections (K : PySem.W.Frag) : Sp := fun vs H Q _ => ∃ (a lp : Addr) (high : Int) (locks : List Str), vs = [.ref a, .int high, .ref lp] ∧ Stm a H ∧ Sq K a H lp (locks.map V.str) ∧ 0 < locks.length ∧ locks.length < 1000 ∧
  ∀ (H' : Hp) (q : Addr) (secs : List Sec) (lo : Int), Nxt a H H' → Dp K H' (.ref q) (.tuple (secs.map secD)) → SecsOk secs lo high locks → secs.length ≤ 3 → Q (.ref q) H'
abbrev st__law_sections : Stmt := topS 33
theorem sc__law_sections : FnScope ["stream", "high", "locks", "turn", "found", "begin", "end"] ["stream", "high", "locks"] (defScope st__law_sections) := ⟨rfl, rfl, rfl, by decide +kernel, rfl, by decide +kernel, by decide +kernel⟩
theorem ok_sections {f : Addr} {fd : FuncData} (F : Fun K "_law_sections" "_law_sections" st__law_sections f fd) (B : Bts mg) (c__law_draw : Cal P w K mg base "_law_draw" 1 ["stream", "high"] spDraw)
    (c__law_pick : Cal P w K mg base "_law_pick" 2 ["stream", "items"] (spPick K)) : FnOk P w K mg base CX0 3 f fd ["stream", "high", "locks"] (spSections K) := by
  refine F.ok sc__law_sections (fun vs H Q E h => ?_) (fun cdv A outer s H vs Q E hr h => ?_)
  · obtain ⟨a, lp, high, locks, rfl, _⟩ := h; rfl
  · obtain ⟨a, lp, high, locks, rfl, hst, hq, hl0, hl1, q⟩ := h
    refine ⟨_, (pss_cons (ps_par (i := 4) (j := 5) (by rfl) sc__law_sections.nd rfl rfl (by decide) rfl rfl (pa_cons (pe_lst pa_nil) (pa_cons pe_int pa_nil)) (by rfl))
  (pss_cons (ps_for PassesOwn.never rfl (pi_range1 (by rfl) B.range (pa_cons (pe_c c__law_pick (hr.mono (by decide)) (pa_cons (pv 0) (pa_cons (pe_lst (pa_cons pe_int (pa_cons pe_int (pa_cons pe_int (pa_cons pe_int (pa_cons pe_int (pa_cons pe_int pa_nil))))))) pa_nil))) pa_nil)) (pg_name (i := 3) sc__law_sections.nd rfl (by first | exact Or.inl rfl | exact Or.inr rfl)) (pss_cons (ps_set (i := 5) sc__law_sections.nd rfl (by first | exact Or.inl rfl | exact Or.inr rfl) (pe_op op_add (pv 5) (pe_c c__law_draw (hr.mono (by decide)) (pa_cons (pv 0) (pa_cons pe_int pa_nil)))))
    (pss_cons (ps_set (i := 6) sc__law_sections.nd rfl (by first | exact Or.inl rfl | exact Or.inr rfl) (pe_op op_add (pe_op op_add (pv 5) pe_int) (pe_c c__law_draw (hr.mono (by decide)) (pa_cons (pv 0) (pa_cons pe_int pa_nil)))))
    (pss_one (ps_if (pt_cmpR op_lt (pv 6) (pv 1) (nomark _)) (pss_cons (ps_expr (kb_m (K := K) rfl (pe_bm PySem.F.plainAttrs_list PySem.F.slot_list_append PySem.F.type_list_append mt_append (pv 4) (pa_cons (pe_tup (pa_cons (pv 5) (pa_cons (pv 6) (pa_cons (pe_c c__law_pick (hr.mono (by decide)) (pa_cons (pv 0) (pa_cons (pv 2) pa_nil))) pa_nil)))) pa_nil))))
      (pss_one (ps_set (i := 5) sc__law_sections.nd rfl (by first | exact Or.inl rfl | exact Or.inr rfl) (pv 6)))) pss_nil)))))
  (pss_one (ps_ret (pe_callTy (k_tuple (K := K) rfl) (by rfl) B.tuple (by decide +kernel) (pa_cons (pv 4) pa_nil)))))), ?_⟩
    walk_at "go"
    intro F0 hF0
    have x1 : Nxt a H (upd H F0 (.lst [])) := Nxt.add hst hF0
    have nF := Stm.ne hst hF0
    walk_at "go"
    intro p0 hp0
    have x2 := x1.trans (Nxt.add (o := .lst [.int 0, .int 0, .int 1, .int 1, .int 2, .int 3]) x1.st hp0)
    have nF0 : F0 ≠ p0 := fun e => by rw [← e, upd_same] at hp0; cases hp0
    refine ⟨a, p0, [.int 0, .int 0, .int 1, .int 1, .int 2, .int 3], rfl, x2.st, .inl ⟨(x1.free hp0).2, SqL.of upd_same⟩, by decide, by decide, fun v u1 v1 w1 hv hu => ?_⟩
    have x3 := x2.trans (Nxt.draw (y := v1) (z := w1) hu)
    obtain ⟨n, hn, rfl⟩ : ∃ n : Nat, n ≤ 3 ∧ v = .int n := by
      rcases List.mem_cons.mp hv with e | hv
      · exact ⟨0, by omega, e⟩
      rcases List.mem_cons.mp hv with e | hv
      · exact ⟨0, by omega, e⟩
      rcases List.mem_cons.mp hv with e | hv
      · exact ⟨1, by omega, e⟩
      rcases List.mem_cons.mp hv with e | hv
      · exact ⟨1, by omega, e⟩
      rcases List.mem_cons.mp hv with e | hv
      · exact ⟨2, by omega, e⟩
      · exact ⟨3, by omega, List.mem_singleton.mp hv⟩
    walk_at "go"
    refine for_range (lo := 0) (n := n) (fun i σ G => ∃ (b : Int) (t3 t6 : Option V) (secs : List Sec) (xs : List V), σ = [some (.ref a), some (.int high), some (.ref lp), t3, some (.ref F0), some (.int b), t6] ∧
        Nxt a H G ∧ G F0 = some (.lst xs) ∧ DpAll K G xs (secs.map secD) ∧ SecsOk secs b high locks ∧ 0 ≤ b ∧ secs.length ≤ i)
      ⟨0, none, none, [], [], rfl, x3, by rw [upd_ne nF, upd_ne nF0, upd_same], .nil, ⟨fun _ z => (nomatch z), .nil⟩, Int.le_refl 0, Nat.le_refl 0⟩ (fun i σ G hi hp => ?_) (fun σ G hp => ?_)
    · obtain ⟨b, t3, t6, secs, xs, rfl, hx, hF, hD, hok, hb, hlen⟩ := hp
      walk_at "go"
      refine ⟨hx.st, by decide, by decide, fun r y1 y2 y3 r0 r1 hy => ?_⟩
      have z1 := hx.trans (Nxt.draw (y := y2) (z := y3) hy)
      walk_at "go"
      refine ⟨z1.st, by decide, by decide, fun r' y1' y2' y3' r0' r1' hy' => ?_⟩
      have z2 := z1.trans (Nxt.draw (y := y2') (z := y3') hy')
      have tk2 : TK G _ := (TK.nxt hx.st (Nxt.draw (y := y2) (z := y3) hy)).trans (TK.nxt z1.st (Nxt.draw (y := y2') (z := y3') hy'))
      have hF2 := (show Nxt a G _ from (Nxt.draw (y := y2) (z := y3) hy).trans (Nxt.draw (y := y2') (z := y3') hy')).off _ _ nF hF
      walk_at "go"
      refine ite2 (fun c => ?_) (fun c => ?_)
      · walk_at "go"
        refine ⟨.inl ⟨rfl, _, SqL.of hF2⟩, ?_⟩
        walk_at "go"
        refine ⟨a, lp, locks.map V.str, rfl, z2.st, hq.off hst z2, by rw [List.length_map]; omega, by rw [List.length_map]; omega, fun v e1 e2 e3 hv he => ?_⟩
        obtain ⟨l, hl, rfl⟩ := List.mem_map.mp hv
        have z3 := z2.trans (Nxt.draw (y := e2) (z := e3) he)
        have tk3 := tk2.trans (TK.nxt z2.st (Nxt.draw (y := e2) (z := e3) he))
        have hF3 := (Nxt.draw (y := e2) (z := e3) he).off _ _ nF hF2
        walk_at "go"
        intro T hT
        have z4 := z3.trans (Nxt.add (o := .tup [.int (b + r), .int (b + r + 1 + r'), .str l]) z3.st hT)
        have tk4 := tk3.trans (TK.new (o := .tup [.int (b + r), .int (b + r + 1 + r'), .str l]) hT)
        have nT : F0 ≠ T := ne_of_none hF3 hT
        have hlx : xs.length = secs.length := by rw [dpAll_len hD, List.length_map]
        have hF4 : (upd _ T (.tup [.int (b + r), .int (b + r + 1 + r'), .str l]) : Hp) F0 = some (.lst xs) := (upd_ne nT).trans hF3
        refine ⟨F0, xs, .ref T, rfl, rfl, hF4, Nat.lt_of_lt_of_le (show xs.length < 100 by omega) (by decide), ?_⟩
        walk_at "go"
        have tk5 := tk4.trans (TK.lst (o := .lst (xs ++ [.ref T])) hF4)
        have hT5 : ∀ G' : Hp, SqT K (upd (upd G' T (.tup [.int (b + r), .int (b + r + 1 + r'), .str l])) F0 (.lst (xs ++ [.ref T]))) T [.int (b + r), .int (b + r + 1 + r'), .str l] := fun G' => .inl (.inl (by rw [upd_ne nT.symm, upd_same]))
        refine ⟨b + r + 1 + r', _, _, secs ++ [(b + r, b + r + 1 + r', l)], xs ++ [.ref T], rfl, ⟨fun o u no e => ?_, ?_⟩, upd_same, ?_, hok.snoc hb (by omega) (by omega) (of_decide_eq_true c) hl, by omega, by rw [List.length_append]; exact Nat.succ_le_succ hlen⟩
        · have nFo : o ≠ F0 := ne_of_none e hF0
          rw [upd_ne nFo]
          exact z4.off o u no e
        · obtain ⟨k1, k2, k3, k0, ke⟩ := z4.st
          exact ⟨k1, k2, k3, k0, by rw [upd_ne nF.symm]; exact ke⟩
        · rw [List.map_append]
          exact dpAll_snoc (dpAll_tk tk5 _ _ (secs_tup secs) hD) (.tup (hT5 _) (.cons (.int _) (.cons (.int _) (.cons (.str _) .nil))))
      · walk_at "go"
        exact ⟨b + r, _, _, secs, xs, rfl, z2, hF2, dpAll_tk tk2 _ _ (secs_tup secs) hD, hok.up (by omega), by omega, by omega⟩
    · obtain ⟨b, t3, t6, secs, xs, rfl, hx, hF, hD, hok, hb, hlen⟩ := hp
      walk_at "go"
      refine ⟨F0, xs, rfl, .inl ⟨SqL.of hF, fun T hT => ?_⟩⟩
      have z1 := hx.trans (Nxt.add (o := .tup xs) hx.st hT)
      exact q _ T secs b z1 (.tup (.inl (.inl upd_same)) (dpAll_tk (TK.new hT) _ _ (secs_tup secs) hD)) hok (by omega)
end
end Pre

set_option Elab.async false
set_option linter.all false
set_option maxRecDepth 100000
set_option maxHeartbeats 4000000
namespace Pre
open PySem PySem.Spec PyProof.Rows L2 Gd
local macro_rules | `(tactic| walk_at "side") => `(tactic| ((try dsimp only); first | exact rfl | decide | omega | exact Nat.le_of_ble_eq_true rfl | exact Or.inl ⟨by decide, by decide⟩ | exact Or.inr ⟨by decide, by decide⟩ | exact ⟨by decide, by decide⟩ | exact ⟨by omega, by omega⟩ | exact fm64 (by decide) (by decide) | exact ⟨by decide, by decide, by decide⟩ | decide +kernel | exact ⟨by decide +kernel, by decide +kernel⟩))
local macro_rules | `(tactic| walk_at "go") => `(tactic| repeat (first | refine ⟨_, rfl, ?_⟩ | refine ⟨_, _, rfl, rfl, ?_⟩ | refine ⟨_, _, rfl, ?_⟩ | refine Or.inl ⟨_, rfl, ?_⟩ | refine Or.inr ⟨_, rfl, ?_⟩ | refine ⟨_, _, _, _, rfl, rfl, by first | assumption | exact SqL.of upd_same | exact upd_same, by rfl, ?_⟩ | refine And.intro (by walk_at "side") ?_))
section
variable {P : Program} {w : World} {K : PySem.W.Frag} {mg : Str → Option Value} {base : Heap}

/-! ### _law_some -/
structure Ln where
  name : Str
  high : Int
  wide : Int
  due : Int
  room : Int
  secs : List Sec
def lnD (l : Ln) : PyData := .tuple [.str l.name, .int l.high, .int l.wide, .int l.due, .int l.room, .tuple (l.secs.map secD)]
theorem lns_tup (ls : List Ln) : tupAll (ls.map lnD) = true := tupAll_of fun d hd => by
  obtain ⟨s, _, rfl⟩ := List.mem_map.mp hd
  simp [lnD, tupOnly, tupAll, secs_tup]
/-- what a drawn line keeps to; part: its part of nine tenths of the load -/
structure LnOk (locks : List Str) (l : Ln) (part : Int) : Prop where
  nm : l.name ∈ names16
  hi : 1 ≤ l.high ∧ l.high ≤ 9
  wd : 1 ≤ l.wide ∧ l.wide ≤ 97 ∧ 10 * l.high ≤ l.wide * part
  du : 1 ≤ l.due ∧ l.due ≤ 300
  rm : 0 ≤ l.room ∧ l.room ≤ 6
  sc : ∃ lo, SecsOk l.secs lo l.high locks
  sl : l.secs.length ≤ 3
structure LnsOk (ls : List Ln) (parts : List Int) (locks : List Str) : Prop where
  len : ls.length = parts.length
  each : ∀ (i : Nat) (l : Ln), ls[i]? = some l → ∃ p, parts[i]? = some p ∧ LnOk locks l p
  nd : (ls.map (·.name)).Nodup
  one : ∀ p ∈ parts, 1 ≤ p
  sum : parts.sum ≤ 9
  lin : ∀ x ∈ locks, x ∈ names16
  lks : locks.length = 2
def spSome (K : PySem.W.Frag) : Sp := fun vs H Q _ => ∃ (a : Addr) (m : Nat), vs = [.ref a, .int (m : Int)] ∧ Stm a H ∧ m ≤ 9 ∧
  ∀ (H' : Hp) (q : Addr) (ls : List Ln) (parts : List Int) (locks : List Str), Nxt a H H' → Dp K H' (.ref q) (.tuple (ls.map lnD)) → ls.length ≤ m → LnsOk ls parts locks → Q (.ref q) H'
theorem rep_ints (u : Nat) : (List.replicate u [V.int 1]).flatten = (List.replicate u (1 : Int)).map V.int := by
  induction u with
  | zero => rfl
  | succ u ih => rw [List.replicate_succ, List.replicate_succ, List.flatten_cons, List.map_cons, ih]; rfl
theorem sum_ones (u : Nat) : (List.replicate u (1 : Int)).sum = u := by
  induction u with
  | zero => rfl
  | succ u ih => rw [List.replicate_succ, List.sum_cons, ih]; omega
theorem sum_set : ∀ (l : List Int) (k : Nat) (h : k < l.length), (l.set k (l[k] + 1)).sum = l.sum + 1
  | x :: l, 0, _ => by show (x + 1) + l.sum = x + l.sum + 1; omega
  | x :: l, k + 1, h => by
    have h' : k < l.length := by simpa using h
    have := sum_set l k h'
    show x + (l.set k (l[k] + 1)).sum = x + l.sum + 1
    omega
theorem le_sum : ∀ (l : List Int), (∀ p ∈ l, 1 ≤ p) → ∀ p ∈ l, p ≤ l.sum ∧ 0 ≤ l.sum
  | x :: l, h, p, hp => by
    have h1 := h x List.mem_cons_self
    have h0 : 0 ≤ l.sum := by
      cases l with
      | nil => exact Int.le_refl 0
      | cons y l => exact (le_sum (y :: l) (fun z hz => h z (List.mem_cons_of_mem _ hz)) y List.mem_cons_self).2
    rw [List.sum_cons]
    rcases List.mem_cons.mp hp with e | e
    · omega
    · have := (le_sum l (fun z hz => h z (List.mem_cons_of_mem _ hz)) p e).1
      omega
theorem tnil {σ : L2.St} {H : Hp} {Q : List V → Hp → Prop} (h : Q [] H) : tNil σ H Q := h
theorem pick_new {a p : Addr} {G : Hp} {l : List Int} {vs : List V} {Q : VK} (e : vs = l.map V.int) (s : Stm a G) (hp : G p = none) (h0 : 0 < l.length) (h1 : l.length < 1000)
    (h : ∀ c x y z : Int, c ∈ l → 0 ≤ x → Q (.int c) (upd (upd G p (.lst vs)) a (stm x y z))) : spPick K [.ref a, .ref p] (upd G p (.lst vs)) Q E0 := by
  subst e
  refine ⟨a, p, l.map V.int, rfl, (Nxt.add s hp).st, .inl ⟨Stm.ne s hp, SqL.of upd_same⟩, by rw [List.length_map]; omega, by rw [List.length_map]; omega, fun v x y z hv hx => ?_⟩
  obtain ⟨c, hc, rfl⟩ := List.mem_map.mp hv
  exact h c x y z hc hx
theorem fdiv_up {h p : Int} (h0 : 1 ≤ h) (h1 : h ≤ 9) (p0 : 1 ≤ p) (p1 : p ≤ 9) : 1 ≤ (10 * h + p - 1).fdiv p ∧ (10 * h + p - 1).fdiv p ≤ 90 ∧ 10 * h ≤ (10 * h + p - 1).fdiv p * p := by
  rw [Int.fdiv_eq_ediv_of_nonneg _ (by omega)]
  have e := Int.emod_add_mul_ediv (10 * h + p - 1) p
  have r0 := Int.emod_nonneg (10 * h + p - 1) (show p ≠ 0 by omega)
  have r1 := Int.emod_lt_of_pos (10 * h + p - 1) (show 0 < p by omega)
  generalize (10 * h + p - 1) / p = d at *
  generalize (10 * h + p - 1) % p = r at *
  have e2 : p * d = d * p := Int.mul_comm p d
  have hd : 10 * h ≤ d * p := by omega
  have d1 : 1 ≤ d := by
    apply Classical.byContradiction
    intro z
    have : d * p ≤ 0 := Int.mul_nonpos_of_nonpos_of_nonneg (by omega) (by omega)
    omega
  refine ⟨d1, ?_, hd⟩
  have : d * 1 ≤ d * p := Int.mul_le_mul_of_nonneg_left p0 (by omega)
  have h2 : d * p ≤ 10 * h + p - 1 := by omega
  apply Classical.byContradiction
  intro z
  have hp : p = 1 ∨ 2 ≤ p := by omega
  rcases hp with rfl | hp
  · omega
  · have : d * 2 ≤ d * p := Int.mul_le_mul_of_nonneg_left hp (by omega)
    omega
abbrev st__law_some : Stmt := topS 34
theorem sc__law_some : FnScope ["stream", "most", "much", "turn", "locks", "parts", "found", "at", "name_here", "high", "wide", "due"] ["stream", "most"] (defScope st__law_some) := ⟨rfl, rfl, rfl, by decide +kernel, rfl, by decide +kernel, by decide +kernel⟩
theorem ok_some {f : Addr} {fd : FuncData} (F : Fun K "_law_some" "_law_some" st__law_some f fd) (B : Bts mg) (c__law_draw : Cal P w K mg base "_law_draw" 1 ["stream", "high"] spDraw)
    (c__law_pick : Cal P w K mg base "_law_pick" 2 ["stream", "items"] (spPick K)) (c__law_names : Cal P w K mg base "_law_names" 3 ["stream", "much"] (spNames K)) (c__law_sections : Cal P w K mg base "_law_sections" 3 ["stream", "high", "locks"] (spSections K)) :
    FnOk P w K mg base CX0 4 f fd ["stream", "most"] (spSome K) := by
  refine F.ok sc__law_some (fun vs H Q E h => ?_) (fun cdv A outer s H vs Q E hr h => ?_)
  · obtain ⟨a, m, rfl, _⟩ := h; rfl
  · obtain ⟨a, m, rfl, hst, hm, q⟩ := h
    refine ⟨_, (pss_cons (ps_set (i := 2) sc__law_some.nd rfl (by first | exact Or.inl rfl | exact Or.inr rfl) (pe_c c__law_draw (hr.mono (by decide)) (pa_cons (pv 0) (pa_cons (pe_op op_add (pv 1) pe_int) pa_nil))))
  (pss_cons (ps_par (i := 5) (j := 6) (by rfl) sc__law_some.nd rfl rfl (by decide) rfl rfl (pa_cons (pe_op op_rep (pe_lst (pa_cons pe_int pa_nil)) (pv 2)) (pa_cons (pe_lst pa_nil) pa_nil)) (by rfl))
  (pss_cons (ps_for PassesOwn.never rfl (pi_range1 (by rfl) B.range (pa_cons (pe_ifExp (pt_cmpR op_gt (pv 2) pe_int (nomark _)) (pe_c c__law_draw (hr.mono (by decide)) (pa_cons (pv 0) (pa_cons (pe_op op_sub pe_int (pv 2)) pa_nil))) pe_int) pa_nil)) (pg_name (i := 3) sc__law_some.nd rfl (by first | exact Or.inl rfl | exact Or.inr rfl)) (pss_cons (ps_set (i := 7) sc__law_some.nd rfl (by first | exact Or.inl rfl | exact Or.inr rfl) (pe_c c__law_draw (hr.mono (by decide)) (pa_cons (pv 0) (pa_cons (pv 2) pa_nil))))
    (pss_one (ps_asg (pe_op op_add (pe_ix (kx_list (K := K) rfl) (pv 5) (pv 7) (fun _ _ => rfl)) pe_int) (pg_sub (pv 5) (pv 7) set_list)))))
  (pss_cons (ps_set (i := 4) sc__law_some.nd rfl (by first | exact Or.inl rfl | exact Or.inr rfl) (pe_c c__law_names (hr.mono (by decide)) (pa_cons (pv 0) (pa_cons pe_int pa_nil))))
  (pss_cons (ps_for PassesOwn.never rfl (pi_enum (by rfl) B.enumerate (pa_cons (pe_c c__law_names (hr.mono (by decide)) (pa_cons (pv 0) (pa_cons (pv 2) pa_nil))) pa_nil)) (kg_tup (K := K) rfl (pg_tup (by rfl) (pgs_cons (pg_name (i := 7) sc__law_some.nd rfl (by first | exact Or.inl rfl | exact Or.inr rfl)) (pgs_cons (pg_name (i := 8) sc__law_some.nd rfl (by first | exact Or.inl rfl | exact Or.inr rfl)) pgs_nil)))) (pss_cons (ps_set (i := 9) sc__law_some.nd rfl (by first | exact Or.inl rfl | exact Or.inr rfl) (pe_op op_add pe_int (pe_c c__law_draw (hr.mono (by decide)) (pa_cons (pv 0) (pa_cons (pe_c c__law_pick (hr.mono (by decide)) (pa_cons (pv 0) (pa_cons (pe_lst (pa_cons pe_int (pa_cons pe_int (pa_cons pe_int (pa_cons pe_int (pa_cons pe_int pa_nil)))))) pa_nil))) pa_nil)))))
    (pss_cons (ps_set (i := 10) sc__law_some.nd rfl (by first | exact Or.inl rfl | exact Or.inr rfl) (pe_op op_fdivN (pe_op op_sub (pe_op op_add (pe_op op_mul pe_int (pv 9)) (pe_ix (kx_list (K := K) rfl) (pv 5) (pv 7) (fun _ _ => rfl))) pe_int) (pe_ix (kx_list (K := K) rfl) (pv 5) (pv 7) (fun _ _ => rfl))))
    (pss_cons (ps_set (i := 10) sc__law_some.nd rfl (by first | exact Or.inl rfl | exact Or.inr rfl) (pe_op op_add (pv 10) (pe_c c__law_pick (hr.mono (by decide)) (pa_cons (pv 0) (pa_cons (pe_lst (pa_cons pe_int (pa_cons pe_int (pa_cons pe_int (pa_cons pe_int (pa_cons pe_int pa_nil)))))) pa_nil)))))
    (pss_cons (ps_set (i := 11) sc__law_some.nd rfl (by first | exact Or.inl rfl | exact Or.inr rfl) (pe_op op_add (pv 9) (pe_c c__law_draw (hr.mono (by decide)) (pa_cons (pv 0) (pa_cons (pe_c c__law_pick (hr.mono (by decide)) (pa_cons (pv 0) (pa_cons (pe_lst (pa_cons pe_int (pa_cons (pe_op op_add (pv 9) pe_int) (pa_cons pe_int (pa_cons pe_int (pa_cons (pe_op op_mul pe_int (pv 10)) (pa_cons pe_int pa_nil))))))) pa_nil))) pa_nil)))))
    (pss_cons (ps_set (i := 11) sc__law_some.nd rfl (by first | exact Or.inl rfl | exact Or.inr rfl) (pe_c c__law_pick (hr.mono (by decide)) (pa_cons (pv 0) (pa_cons (pe_lst (pa_cons (pv 11) (pa_cons (pv 11) (pa_cons (pv 10) pa_nil)))) pa_nil))))
    (pss_one (ps_expr (kb_m (K := K) rfl (pe_bm PySem.F.plainAttrs_list PySem.F.slot_list_append PySem.F.type_list_append mt_append (pv 6) (pa_cons (pe_tup (pa_cons (pv 8) (pa_cons (pv 9) (pa_cons (pv 10) (pa_cons (pv 11) (pa_cons (pe_c c__law_draw (hr.mono (by decide)) (pa_cons (pv 0) (pa_cons pe_int pa_nil))) (pa_cons (pe_c c__law_sections (hr.mono (by decide)) (pa_cons (pv 0) (pa_cons (pv 9) (pa_cons (pv 4) pa_nil)))) pa_nil))))))) pa_nil)))))))))))
  (pss_one (ps_ret (pe_callTy (k_tuple (K := K) rfl) (by rfl) B.tuple (by decide +kernel) (pa_cons (pv 6) pa_nil))))))))), ?_⟩
    walk_at "go"
    intro r u1 v1 w1 r0 r1 hu
    obtain ⟨u, rfl⟩ := Int.eq_ofNat_of_zero_le r0
    have x1 : Nxt a H (upd H a (stm u1 v1 w1)) := Nxt.draw hu
    walk_at "go"
    intro p0 hp0
    have x2 := x1.trans (Nxt.add (o := .lst [.int 1]) x1.st hp0)
    walk_at "go"
    refine ⟨p0, (u : Int), [.int 1], rfl, rfl, upd_same, by omega, by omega, Nat.le_trans (show [V.int 1].length * (u : Int).toNat ≤ 100 by simp; omega) (by decide), fun Pt hPt => ?_⟩
    rw [Int.toNat_natCast, rep_ints]
    have x3 := x2.trans (Nxt.add (o := .lst ((List.replicate u 1).map V.int)) x2.st hPt)
    walk_at "go"
    intro F0 hF0
    have x4 := x3.trans (Nxt.add (o := .lst []) x3.st hF0)
    have nP := (x2.free hPt)
    have nF := (x3.free hF0)
    have nPF : Pt ≠ F0 := fun e => by rw [← e, upd_same] at hF0; cases hF0
    walk_at "go"
    have nFP : F0 ≠ Pt := nPF.symm
    have iP4 : (upd (upd (upd (upd H a (stm u1 v1 w1)) p0 (.lst [.int 1])) Pt (.lst ((List.replicate u 1).map V.int))) F0 (.lst []) : Hp) Pt = some (.lst ((List.replicate u 1).map V.int)) := by rw [upd_ne nPF, upd_same]
    have iF4 : (upd (upd (upd (upd H a (stm u1 v1 w1)) p0 (.lst [.int 1])) Pt (.lst ((List.replicate u 1).map V.int))) F0 (.lst []) : Hp) F0 = some (.lst []) := upd_same
    refine ite2 (fun c => ?_) (fun c => ?_)
    have c0 : 0 < u := by have := of_decide_eq_true c; omega
    walk_at "go"
    refine ⟨x4.st, by omega, by omega, fun r y1 y2 y3 r0' r1' hy => ?_⟩
    have x5 := x4.trans (Nxt.draw (y := y2) (z := y3) hy)
    have iP5 := (Nxt.draw (H := upd (upd (upd (upd H a (stm u1 v1 w1)) p0 (.lst [.int 1])) Pt (.lst ((List.replicate u 1).map V.int))) F0 (.lst [])) (y := y2) (z := y3) hy).off _ _ nP.2 iP4
    have iF5 := (Nxt.draw (H := upd (upd (upd (upd H a (stm u1 v1 w1)) p0 (.lst [.int 1])) Pt (.lst ((List.replicate u 1).map V.int))) F0 (.lst [])) (y := y2) (z := y3) hy).off _ _ nF.2 iF4
    have hb : r.toNat + u ≤ 9 := by omega
    have hb2 : 0 < u ∨ r.toNat = 0 := .inl c0
    walk_at "go"
    rotate_left
    have x5 := x4
    have iP5 := iP4
    have iF5 := iF4
    have hb : (0 : Int).toNat + u ≤ 9 := by have : (0 : Int).toNat = 0 := rfl; omega
    have hb2 : 0 < u ∨ (0 : Int).toNat = 0 := .inr rfl
    walk_at "go"
    all_goals
      refine for_range (lo := 0) (n := _) (fun i σ G => ∃ (t3 t7 : Option V) (ps : List Int), σ = [some (.ref a), some (.int (m : Int)), some (.int (u : Int)), t3, none, some (.ref Pt), some (.ref F0), t7, none, none, none, none] ∧
          Nxt a H G ∧ G Pt = some (.lst (ps.map V.int)) ∧ G F0 = some (.lst []) ∧ ps.length = u ∧ (∀ p ∈ ps, 1 ≤ p) ∧ ps.sum = (u : Int) + i)
        ⟨none, none, List.replicate u 1, rfl, x5, iP5, iF5, List.length_replicate, fun p hp => by rw [List.eq_of_mem_replicate hp]; exact Int.le_refl 1, by rw [sum_ones]; simp⟩ (fun i σ G hi hp => ?_) (fun σ G hp => ?_)
      · obtain ⟨t3, t7, ps, rfl, hx, hP, hF, hlen, hone, hsum⟩ := hp
        first
        | exact absurd hi (by omega)
        | (
            walk_at "go"
            refine ⟨hx.st, by omega, by omega, fun k y1 y2 y3 k0 k1 hy => ?_⟩
            have z1 := hx.trans (Nxt.draw (y := y2) (z := y3) hy)
            have hP1 := (Nxt.draw (H := G) (y := y2) (z := y3) hy).off _ _ nP.2 hP
            have hF1 := (Nxt.draw (H := G) (y := y2) (z := y3) hy).off _ _ nF.2 hF
            have hk : k.toNat < ps.length := by omega
            walk_at "go"
            refine ⟨Pt, _, k, .int ps[k.toNat], rfl, rfl, SqL.of hP1, atI_int k0 (by rw [List.getElem?_map, List.getElem?_eq_getElem hk]; rfl), ?_⟩
            walk_at "go"
            refine ⟨Pt, _, k, k.toNat, rfl, rfl, hP1, ixN_nat k0 (by rw [List.length_map]; omega), ?_⟩
            refine ⟨_, _, ps.set k.toNat (ps[k.toNat] + 1), rfl, z1.put nP.1 nP.2, ?_, ?_, by rw [List.length_set]; exact hlen, ?_, ?_⟩
            · rw [upd_same, List.map_set]
            · rw [upd_ne nFP]; exact hF1
            · intro p hp
              rcases List.mem_or_eq_of_mem_set hp with h | h
              · exact hone p h
              · have := hone _ (List.getElem_mem hk); omega
            · rw [sum_set ps k.toNat hk, hsum]; omega)
      · obtain ⟨t3, t7, ps, rfl, hx, hP, hF, hlen, hone, hsum⟩ := hp
        walk_at "go"
        refine ⟨hx.st, by decide, fun G1 Lk locks x6 hLk nLk hL hl2 hln hlin => ?_⟩
        have z1 := hx.trans x6
        have hP1 := x6.off _ _ nP.2 hP
        have hF1 := x6.off _ _ nF.2 hF
        have nLP : Lk ≠ Pt := fun e => by rw [e, hP] at hLk; cases hLk
        have nLF : Lk ≠ F0 := fun e => by rw [e, hF] at hLk; cases hLk
        walk_at "go"
        refine ⟨z1.st, by omega, fun G2 Nm names x7 hNm nNm hN hNl hNd hNin => ?_⟩
        have z2 := z1.trans x7
        have hP2 := x7.off _ _ nP.2 hP1
        have hF2 := x7.off _ _ nF.2 hF1
        have hL2 := x7.off _ _ nLk hL
        have nNP : Nm ≠ Pt := fun e => by rw [e, hP1] at hNm; cases hNm
        have nNF : Nm ≠ F0 := fun e => by rw [e, hF1] at hNm; cases hNm
        have nNL : Nm ≠ Lk := fun e => by rw [e, hL] at hNm; cases hNm
        refine ⟨Nm, _, rfl, SqL.of hN, ?_⟩
        refine for_enum (xs := names.map V.str) (fun i σ G => ∃ (t3 t7 t8 t9 t10 t11 : Option V) (ls : List Ln) (xs : List V), σ = [some (.ref a), some (.int (m : Int)), some (.int (u : Int)), t3, some (.ref Lk), some (.ref Pt), some (.ref F0), t7, t8, t9, t10, t11] ∧
            Nxt a H G ∧ G Pt = some (.lst (ps.map V.int)) ∧ G Lk = some (.lst (locks.map V.str)) ∧ G Nm = some (.lst (names.map V.str)) ∧ G F0 = some (.lst xs) ∧ DpAll K G xs (ls.map lnD) ∧ ls.length = i ∧ ls.map (·.name) = names.take i ∧
            ∀ (j : Nat) (l : Ln), ls[j]? = some l → ∃ p, ps[j]? = some p ∧ LnOk locks l p)
          ⟨_, _, none, none, none, none, [], [], rfl, z2, hP2, hL2, hN, hF2, .nil, rfl, rfl, fun j l z => (nomatch z)⟩ (fun i σ G ⟨_, _, _, _, _, _, _, _, _, _, _, _, hh, _⟩ => SqL.of hh) (fun i x T σ G hxi hp hT => ?_) (fun σ G hp => ?_)
        · obtain ⟨t3, t7, t8, t9, t10, t11, ls, xs, rfl, gx, gP, gL, gN, gF, gD, glen, gnm, gok⟩ := hp
          have hin : i < names.length := by
            have := (List.getElem?_eq_some_iff.mp hxi).1
            rw [List.length_map] at this
            exact this
          obtain rfl : x = .str names[i] := by
            rw [List.getElem?_map, List.getElem?_eq_getElem hin] at hxi
            exact (Option.some.inj hxi).symm
          have hip : i < ps.length := by omega
          have hpi := hone _ (List.getElem_mem hip)
          have hpi9 := (le_sum ps hone _ (List.getElem_mem hip)).1
          have keep : ∀ G' : Hp, Nxt a G G' → Nxt a H G' ∧ G' Pt = some (.lst (ps.map V.int)) ∧ G' Lk = some (.lst (locks.map V.str)) ∧ G' Nm = some (.lst (names.map V.str)) ∧ G' F0 = some (.lst xs) ∧ DpAll K G' xs (ls.map lnD) :=
            fun G' y => ⟨gx.trans y, y.off _ _ nP.2 gP, y.off _ _ nLk gL, y.off _ _ nNm gN, y.off _ _ nF.2 gF, dpAll_tk (TK.nxt gx.st y) _ _ (lns_tup ls) gD⟩
          have w0 : Nxt a G (upd G T (.tup [.int (i : Nat), .str names[i]])) := Nxt.add gx.st hT
          refine ⟨T, _, rfl, .inl (.inl upd_same), rfl, ?_⟩
          walk_at "go"
          -- high
          intro p1 hp1
          have w1 := w0.trans (Nxt.add (o := .lst [.int 1, .int 2, .int 4, .int 6, .int 9]) w0.st hp1)
          refine tnil ?_
          try dsimp only
          refine pick_new (l := [1, 2, 4, 6, 9]) rfl w0.st hp1 (by decide) (by decide) fun c1 e1 e2 e3 hc1 he1 => ?_
          have w2 := w1.trans (Nxt.draw (y := e2) (z := e3) he1)
          have b1 : 1 ≤ c1 ∧ c1 ≤ 9 := by simp at hc1; omega
          walk_at "go"
          refine ⟨w2.st, by omega, by omega, fun h f1 f2 f3 h0 h1 hf => ?_⟩
          have w3 := w2.trans (Nxt.draw (y := f2) (z := f3) hf)
          walk_at "go"
          -- wide
          refine ⟨Pt, _, (i : Nat), .int ps[i], rfl, rfl, SqL.of (keep _ w3).2.1, atI_nat (by rw [List.getElem?_map, List.getElem?_eq_getElem hip]; rfl), ?_⟩
          walk_at "go"
          refine ⟨Pt, _, (i : Nat), .int ps[i], rfl, rfl, SqL.of (keep _ w3).2.1, atI_nat (by rw [List.getElem?_map, List.getElem?_eq_getElem hip]; rfl), ?_⟩
          walk_at "go"
          obtain ⟨d1, d2, d3⟩ := fdiv_up (h := 1 + h) (p := ps[i]) (by omega) (by omega) hpi (by omega)
          try dsimp only
          generalize (10 * (1 + h) + ps[i] - 1).fdiv ps[i] = wd at *
          intro p2 hp2
          have w4 := w3.trans (Nxt.add (o := .lst [.int 0, .int 0, .int 1, .int 3, .int 7]) w3.st hp2)
          refine tnil ?_
          try dsimp only
          refine pick_new (l := [0, 0, 1, 3, 7]) rfl w3.st hp2 (by decide) (by decide) fun c2 e1' e2' e3' hc2 he2 => ?_
          have w5 := w4.trans (Nxt.draw (y := e2') (z := e3') he2)
          have b2 : 0 ≤ c2 ∧ c2 ≤ 7 := by simp at hc2; omega
          walk_at "go"
          -- due
          intro p3 hp3
          have w6 := w5.trans (Nxt.add (o := .lst [.int 1, .int (1 + h + 1), .int 6, .int 15, .int (2 * (wd + c2)), .int 60]) w5.st hp3)
          refine tnil ?_
          try dsimp only
          refine pick_new (l := [1, 1 + h + 1, 6, 15, 2 * (wd + c2), 60]) rfl w5.st hp3 (by show 0 < 6; decide) (by show 6 < 1000; decide) fun c3 e4 e5 e6 hc3 he3 => ?_
          have w7 := w6.trans (Nxt.draw (y := e5) (z := e6) he3)
          have b3 : 1 ≤ c3 ∧ c3 ≤ 200 := by simp at hc3; omega
          walk_at "go"
          refine ⟨w7.st, by omega, by omega, fun du g1 g2 g3 du0 du1 hg => ?_⟩
          have w8 := w7.trans (Nxt.draw (y := g2) (z := g3) hg)
          walk_at "go"
          intro p4 hp4
          have w9 := w8.trans (Nxt.add (o := .lst [.int (1 + h + du), .int (1 + h + du), .int (wd + c2)]) w8.st hp4)
          refine tnil ?_
          try dsimp only
          refine pick_new (l := [1 + h + du, 1 + h + du, wd + c2]) rfl w8.st hp4 (by show 0 < 3; decide) (by show 3 < 1000; decide) fun c5 e7 e8 e9 hc5 he5 => ?_
          have w10 := w9.trans (Nxt.draw (y := e8) (z := e9) he5)
          have b5 : 1 ≤ c5 ∧ c5 ≤ 300 := by simp at hc5; omega
          walk_at "go"
          refine ⟨.inl ⟨rfl, _, SqL.of (keep _ w10).2.2.2.2.1⟩, ?_⟩
          walk_at "go"
          refine ⟨w10.st, by decide, by decide, fun rm g4 g5 g6 rm0 rm1 hrm => ?_⟩
          have w11 := w10.trans (Nxt.draw (y := g5) (z := g6) hrm)
          walk_at "go"
          refine tnil ?_
          try dsimp only
          refine ⟨a, Lk, 1 + h, locks, rfl, w11.st, .inl ⟨nLk, SqL.of (keep _ w11).2.2.1⟩, by rw [hl2]; decide, by rw [hl2]; decide, fun G5 sq secs lo x12 hDs hsok hsl => ?_⟩
          have w12 := w11.trans x12
          walk_at "go"
          intro T2 hT2
          have w13 := w12.trans (Nxt.add (o := .tup [.str names[i], .int (1 + h), .int (wd + c2), .int c5, .int rm, .ref sq]) w12.st hT2)
          walk_at "go"
          refine tnil ?_
          obtain ⟨k1, k2, k3, k4, k5, k6⟩ := keep _ w13
          have nT2 : F0 ≠ T2 := ne_of_none (keep _ w12).2.2.2.2.1 hT2
          have hlx : xs.length = ls.length := by rw [dpAll_len gD, List.length_map]
          refine ⟨F0, xs, .ref T2, rfl, rfl, k5, Nat.lt_of_lt_of_le (show xs.length < 100 by omega) (by decide), ?_⟩
          refine ⟨_, _, _, _, _, _, ls ++ [⟨names[i], 1 + h, wd + c2, c5, rm, secs⟩], xs ++ [.ref T2], rfl, k1.put nF.1 nF.2, by rw [upd_ne nPF]; exact k2, by rw [upd_ne nLF]; exact k3, by rw [upd_ne nNF]; exact k4, upd_same, ?_, ?_, ?_, ?_⟩
          · rw [List.map_append]
            have hs2 : Dp K _ (.ref sq) (.tuple (secs.map secD)) := dp_tk ((TK.new (o := .tup [.str names[i], .int (1 + h), .int (wd + c2), .int c5, .int rm, .ref sq]) hT2).trans (TK.lst (o := .lst (xs ++ [.ref T2])) k5)) _ _ (by simpa [tupOnly] using secs_tup secs) hDs
            exact dpAll_snoc (dpAll_tk (TK.lst k5) _ _ (lns_tup ls) k6) (.tup (.inl (.inl (by rw [upd_ne nT2.symm, upd_same]))) (.cons (.str _) (.cons (.int _) (.cons (.int _) (.cons (.int _) (.cons (.int _) (.cons hs2 .nil)))))))
          · rw [List.length_append, glen]; rfl
          · rw [List.map_append, gnm, List.take_add_one, List.getElem?_eq_getElem hin]; rfl
          · intro j l hj
            by_cases hjl : j < ls.length
            · rw [List.getElem?_append_left hjl] at hj
              exact gok j l hj
            · have hje : j = ls.length := by
                have := (List.getElem?_eq_some_iff.mp hj).1
                rw [List.length_append] at this
                have e1 : ([⟨names[i], 1 + h, wd + c2, c5, rm, secs⟩] : List Ln).length = 1 := rfl
                omega
              subst hje
              rw [List.getElem?_append_right (Nat.le_refl _), Nat.sub_self] at hj
              cases (Option.some.inj hj)
              refine ⟨ps[i], by rw [glen]; exact List.getElem?_eq_getElem hip, hNin _ (List.getElem_mem hin), ⟨by dsimp only; omega, by dsimp only; omega⟩, ⟨by dsimp only; omega, by dsimp only; omega, ?_⟩, b5, ⟨rm0, by dsimp only; omega⟩, ⟨lo, hsok⟩, hsl⟩
              have : 0 ≤ c2 * ps[i] := Int.mul_nonneg b2.1 (by omega)
              dsimp only
              rw [Int.add_mul]
              omega
        · obtain ⟨t3, t7, t8, t9, t10, t11, ls, xs, rfl, gx, gP, gL, gN, gF, gD, glen, gnm, gok⟩ := hp
          rw [List.length_map] at glen gnm
          walk_at "go"
          refine ⟨F0, xs, rfl, .inl ⟨SqL.of gF, fun T hT => ?_⟩⟩
          have z3 := gx.trans (Nxt.add (o := .tup xs) gx.st hT)
          refine q _ T ls ps locks z3 (.tup (.inl (.inl upd_same)) (dpAll_tk (TK.new hT) _ _ (lns_tup ls) gD)) (by omega) ⟨by omega, gok, ?_, hone, by omega, hlin, hl2⟩
          rw [gnm, List.take_of_length_le (Nat.le_refl _)]
          exact hNd
end
end Pre

set_option Elab.async false
set_option linter.all false
set_option maxRecDepth 100000
set_option maxHeartbeats 4000000
namespace Pre
open PySem PySem.Spec PyProof.Rows L2 Gd
local macro_rules | `(tactic| walk_at "side") => `(tactic| ((try dsimp only); first | exact rfl | decide | omega | exact Nat.le_of_ble_eq_true rfl | exact Or.inl ⟨by decide, by decide⟩ | exact Or.inr ⟨by decide, by decide⟩ | exact ⟨by decide, by decide⟩ | exact ⟨by omega, by omega⟩ | exact fm64 (by decide) (by decide) | exact ⟨by decide, by decide, by decide⟩ | decide +kernel | exact ⟨by decide +kernel, by decide +kernel⟩))
local macro_rules | `(tactic| walk_at "go1") => `(tactic| first | refine ⟨_, rfl, ?_⟩ | refine ⟨_, _, rfl, rfl, ?_⟩ | refine ⟨_, _, rfl, ?_⟩ | refine Or.inl ⟨_, rfl, ?_⟩ | refine Or.inr ⟨_, rfl, ?_⟩ | refine ⟨_, _, _, rfl, ?_⟩ | refine ⟨_, _, _, _, rfl, ?_⟩ | refine ⟨_, _, _, _, rfl, rfl, by first | assumption | exact SqL.of upd_same | exact upd_same, by rfl, ?_⟩ | refine ⟨_, _, _, _, true, rfl, .ty _, .base (.int _), kit_ty (by decide +kernel), ?_⟩ | refine ⟨_, _, _, _, false, rfl, .ty _, .base (.int _), kit_ty (by decide +kernel), ?_⟩ | refine ⟨_, _, _, _, true, rfl, .ty _, .base (.str _), kit_ty (by decide +kernel), ?_⟩ | refine ⟨_, _, _, _, true, rfl, .ty _, tyx_t (by assumption), kit_ty (by decide +kernel), ?_⟩ | refine ⟨_, _, rfl, .inl (by assumption), ?_⟩ | refine ⟨_, _, rfl, .inr (by assumption), ?_⟩ | refine ⟨_, _, rfl, by assumption, by rfl, ?_⟩ | refine And.intro (by walk_at "side") ?_)
local macro_rules | `(tactic| walk_at "go") => `(tactic| repeat walk_at "go1")
section
variable {P : Program} {w : World} {K : PySem.W.Frag} {mg : Str → Option Value} {base : Heap}

/-! ### what a task is -/
def NameOk (z : Str) : Prop := 1 ≤ z.length ∧ z.length ≤ 8 ∧ ∀ c ∈ z.cps.toList, 97 ≤ c ∧ c ≤ 122
instance (z : Str) : Decidable (NameOk z) := by unfold NameOk; infer_instance
theorem names16_ok : ∀ z ∈ names16, NameOk z := by decide +kernel
structure TkOk (l : Ln) : Prop where
  nm : NameOk l.name
  hi : 1 ≤ l.high ∧ l.high ≤ 100
  wd : 1 ≤ l.wide ∧ l.wide ≤ 1000
  du : 1 ≤ l.due ∧ l.due ≤ 20000
  rm : 0 ≤ l.room ∧ l.room ≤ 1000000
  sl : l.secs.length ≤ 8
  sc : ∀ s ∈ l.secs, 0 ≤ s.1 ∧ s.1 < s.2.1 ∧ s.2.1 < l.high ∧ NameOk s.2.2
  ap : l.secs.Pairwise fun s t => s.2.1 ≤ t.1
theorem LnOk.tk {locks : List Str} {l : Ln} {p : Int} (h : LnOk locks l p) (hl : ∀ x ∈ locks, x ∈ names16) : TkOk l := by
  obtain ⟨lo, hs⟩ := h.sc
  exact ⟨names16_ok _ h.nm, ⟨h.hi.1, by have := h.hi.2; omega⟩, ⟨h.wd.1, by have := h.wd.2.1; omega⟩, ⟨h.du.1, by have := h.du.2; omega⟩, ⟨h.rm.1, by have := h.rm.2; omega⟩, by have := h.sl; omega,
    fun s hm => ⟨(hs.each s hm).1, (hs.each s hm).2.1, (hs.each s hm).2.2.1, names16_ok _ (hl _ (hs.each s hm).2.2.2.1)⟩, hs.apart⟩

/-! ### data, taken apart -/
theorem tks {H H' : Hp} (x : Same H H') : TK H H' := ⟨fun _ _ e => x _ _ e, fun _ _ _ e => x _ _ e⟩
theorem sameNew {H : Hp} {p : Addr} {o : HO} (h : H p = none) : Same H (upd H p o) := fun b u e => by rw [upd_ne (ne_of_none e h)]; exact e
theorem dp_tup {H : Hp} {v : V} {ds : List PyData} (h : Dp K H v (.tuple ds)) : ∃ t xs, v = .ref t ∧ SqT K H t xs ∧ DpAll K H xs ds := by
  cases h with
  | tup hs ha => exact ⟨_, _, rfl, hs, ha⟩
theorem dp_int {H : Hp} {v : V} {i : Int} (h : Dp K H v (.int i)) : v = .int i := by cases h; rfl
theorem dp_str {H : Hp} {v : V} {i : Str} (h : Dp K H v (.str i)) : v = .str i := by cases h; rfl
theorem dpAll_get {H : Hp} : ∀ {xs : List V} {ds : List PyData} {i : Nat} {x : V}, DpAll K H xs ds → xs[i]? = some x → ∃ d, ds[i]? = some d ∧ Dp K H x d
  | _, _, _, _, .nil, e => by simp at e
  | _, _, 0, _, .cons a _, e => by simp at e; subst e; exact ⟨_, rfl, a⟩
  | _, _, i + 1, x, .cons _ b, e => by
    obtain ⟨d, h1, h2⟩ := dpAll_get (i := i) b (by simpa using e)
    exact ⟨d, by simpa using h1, h2⟩
theorem dp_sec {H : Hp} {v : V} {s : Sec} (h : Dp K H v (secD s)) : ∃ t, v = .ref t ∧ SqT K H t [.int s.1, .int s.2.1, .str s.2.2] := by
  obtain ⟨t, xs, rfl, hs, ha⟩ := dp_tup h
  cases ha with
  | cons a ha =>
    cases ha with
    | cons b ha =>
      cases ha with
      | cons c ha =>
        cases ha
        rw [dp_int a, dp_int b, dp_str c] at hs
        exact ⟨t, rfl, hs⟩
/-- a line stands at t: its places -/
theorem dp_ln {H : Hp} {v : V} {l : Ln} (h : Dp K H v (lnD l)) : ∃ t q, v = .ref t ∧ SqT K H t [.str l.name, .int l.high, .int l.wide, .int l.due, .int l.room, .ref q] ∧ Dp K H (.ref q) (.tuple (l.secs.map secD)) := by
  obtain ⟨t, xs, rfl, hs, ha⟩ := dp_tup h
  cases ha with
  | cons a ha =>
    cases ha with
    | cons b ha =>
      cases ha with
      | cons c ha =>
        cases ha with
        | cons d ha =>
          cases ha with
          | cons e ha =>
            cases ha with
            | cons f ha =>
              cases ha
              obtain ⟨q, _, rfl, _, _⟩ := dp_tup f
              rw [dp_str a, dp_int b, dp_int c, dp_int d, dp_int e] at hs
              exact ⟨t, q, rfl, hs, f⟩

/-! ### holdlevels.checks -/
def spWhole : Sp := fun vs H Q _ => ∃ i : Int, vs = [.int i] ∧ Q (.bl true) H
abbrev st_is_whole : Stmt := topS 5
theorem sc_is_whole : FnScope ["value"] ["value"] (defScope st_is_whole) := ⟨rfl, rfl, rfl, by decide +kernel, rfl, by decide +kernel, by decide +kernel⟩
theorem ok_whole {f : Addr} {fd : FuncData} (F : Fun K "is_whole" "is_whole" st_is_whole f fd) (B : Bts mg) : FnOk P w K mg base CX0 1 f fd ["value"] spWhole := by
  refine F.ok sc_is_whole (fun vs H Q E h => ?_) (fun cdv A outer s H vs Q E hr h => ?_)
  · obtain ⟨i, rfl, _⟩ := h; rfl
  · obtain ⟨i, rfl, q⟩ := h
    refine ⟨_, (pss_one (ps_ret (pe_and (pe_callB (k_isi (K := K) rfl) (by rfl) B.isinstance (by decide +kernel) (pa_cons (pv 0) (pa_cons (pe_bltn (v := .ty "int") (by rfl) B.int (by decide +kernel) rfl) pa_nil))) (pe_one (pe_not (pe_callB (k_isi (K := K) rfl) (by rfl) B.isinstance (by decide +kernel) (pa_cons (pv 0) (pa_cons (pe_bltn (v := .ty "bool") (by rfl) B.bool (by decide +kernel) rfl) pa_nil)))))))), ?_⟩
    walk_at "go"
    exact q
def spBetween : Sp := fun vs H Q _ => ∃ i a b : Int, vs = [.int i, .int a, .int b] ∧ Q (.bl (decide (a ≤ i ∧ i ≤ b))) H
abbrev st_is_between : Stmt := topS 6
theorem sc_is_between : FnScope ["value", "least", "most"] ["value", "least", "most"] (defScope st_is_between) := ⟨rfl, rfl, rfl, by decide +kernel, rfl, by decide +kernel, by decide +kernel⟩
theorem ok_between {f : Addr} {fd : FuncData} (F : Fun K "is_between" "is_between" st_is_between f fd) (c_is_whole : Cal P w K mg base "is_whole" 1 ["value"] spWhole) : FnOk P w K mg base CX0 2 f fd ["value", "least", "most"] spBetween := by
  refine F.ok sc_is_between (fun vs H Q E h => ?_) (fun cdv A outer s H vs Q E hr h => ?_)
  · obtain ⟨i, a, b, rfl, _⟩ := h; rfl
  · obtain ⟨i, a, b, rfl, q⟩ := h
    refine ⟨_, (pss_one (ps_ret (pe_and (pe_c c_is_whole (hr.mono (by decide)) (pa_cons (pv 0) pa_nil)) (pe_one (pe_chain op_le op_le (pv 1) (pv 0) (pv 2)))))), ?_⟩
    walk_at "go"
    refine ite2 (fun c => ?_) (fun c => ?_)
    · walk_at "go"
      have c' := of_decide_eq_true c
      rw [show decide (a ≤ i ∧ i ≤ b) = decide (i ≤ b) by simp [c']] at q
      exact q
    · have c' : ¬ a ≤ i := fun z => c (decide_eq_true z)
      rw [show decide (a ≤ i ∧ i ≤ b) = false by simp [c']] at q
      exact q
def spCheck : Sp := fun vs H Q _ => ∃ i a b : Int, vs = [.int i, .int a, .int b] ∧ a ≤ i ∧ i ≤ b ∧ Q .non H
abbrev st_check_between : Stmt := topS 7
theorem sc_check_between : FnScope ["value", "least", "most"] ["value", "least", "most"] (defScope st_check_between) := ⟨rfl, rfl, rfl, by decide +kernel, rfl, by decide +kernel, by decide +kernel⟩
theorem ok_check {f : Addr} {fd : FuncData} (F : Fun K "check_between" "check_between" st_check_between f fd) (c_is_between : Cal P w K mg base "is_between" 2 ["value", "least", "most"] spBetween) : FnOk P w K mg base CX0 3 f fd ["value", "least", "most"] spCheck := by
  refine F.ok sc_check_between (fun vs H Q E h => ?_) (fun cdv A outer s H vs Q E hr h => ?_)
  · obtain ⟨i, a, b, rfl, _⟩ := h; rfl
  · obtain ⟨i, a, b, rfl, h1, h2, q⟩ := h
    refine ⟨_, (pss_one (ps_if (pt_not (pt_val (pe_c c_is_between (hr.mono (by decide)) (pa_cons (pv 0) (pa_cons (pv 1) (pa_cons (pv 2) pa_nil)))))) (pss_one ps_never) pss_nil)), ?_⟩
    walk_at "go"
    rw [decide_eq_true (show a ≤ i ∧ i ≤ b from ⟨h1, h2⟩)]
    exact iteF q

/-! ### holdlevels.tasks.tasks -/
theorem itn {p A B : Prop} [Decidable p] (hp : ¬ p) (h : A) : if (!decide p) = true then A else B := by
  rw [decide_eq_false hp]
  exact iteT h
theorem cps_a : ("a" : Str).cps.toList = [97] := by decide +kernel
theorem cps_z : ("z" : Str).cps.toList = [122] := by decide +kernel
theorem not_lt_one {c d : Nat} (h : d ≤ c) : ¬ ([c] < [d]) := fun z => by
  rcases List.cons_lt_cons_iff.mp z with z | ⟨_, z⟩
  · exact absurd z (Nat.not_lt.mpr h)
  · exact absurd z (List.not_lt_nil [])
def spName : Sp := fun vs H Q _ => ∃ z : Str, vs = [.str z] ∧ NameOk z ∧ ∀ H', Same H H' → Q (.bl true) H'
abbrev st_is_name : Stmt := topS 17
theorem sc_is_name : FnScope ["value", "letter"] ["value"] (defScope st_is_name) := ⟨rfl, rfl, rfl, by decide +kernel, rfl, by decide +kernel, by decide +kernel⟩
theorem ok_name {f : Addr} {fd : FuncData} (F : Fun K "is_name" "is_name" st_is_name f fd) (B : Bts mg) (k_MAX_LETTERS : Kst mg "MAX_LETTERS" (.int 8)) : FnOk P w K mg base CX0 1 f fd ["value"] spName := by
  refine F.ok sc_is_name (fun vs H Q E h => ?_) (fun cdv A outer s H vs Q E hr h => ?_)
  · obtain ⟨z, rfl, _⟩ := h; rfl
  · obtain ⟨z, rfl, ⟨z1, z8, zc⟩, q⟩ := h
    refine ⟨_, (pss_cons (ps_if (PW.pt (pw_or (pt_not (pt_val (pe_callB (k_isi (K := K) rfl) (by rfl) B.isinstance (by decide +kernel) (pa_cons (pv 0) (pa_cons (pe_bltn (v := .ty "str") (by rfl) B.str (by decide +kernel) rfl) pa_nil))))) (pw_or1 (pt_not (pt_chain op_le op_le pe_int (pe_callB call_len_str (by rfl) B.len (by decide +kernel) (pa_cons (pv 0) pa_nil)) (pe_k k_MAX_LETTERS)))))) (pss_one (ps_ret pe_bl)) pss_nil)
  (pss_one (ps_ret (pe_callB (k_all (K := K) rfl rfl) (by rfl) B.all (by decide +kernel) (pa_cons (pe_lc (own := [("letter", 1)]) (g := gName 1) (tt := tYes) rfl sc_is_name.nd  (pi_str (pv 0)) (blkOk_by (own := [("letter", 1)]) (N := ["value", "letter"]) (sc := defScope st_is_name) (by decide +kernel)) (fun _ _ _ _ _ => pg_name (i := 1) sc_is_name.nd rfl (by first | exact Or.inl rfl | exact Or.inr rfl)) (fun _ _ _ _ _ => pts_nil) (fun _ _ _ _ _ => (pe_chain op_le_str op_le_str pe_str (pv 1) pe_str))) pa_nil))))), ?_⟩
    walk_at "go"
    refine ⟨Nat.le_trans z8 (by decide), ?_⟩
    walk_at "go"
    refine itd (by omega) ?_
    walk_at "go"
    refine iteNS (by omega) ?_
    walk_at "go"
    refine fun D hD => ?_
    refine lc_str (fun i G => ∃ bs : List Bool, G D = some (.lst (bs.map V.bl)) ∧ bs.all id = true ∧ bs.length = i ∧ Same H G) ⟨[], upd_same, rfl, rfl, sameNew hD⟩ (fun i c G hc hp => ?_) (fun G hp => ?_)
    · obtain ⟨bs, h1, h2, h3, h4⟩ := hp
      have hm : c ∈ z.cps.toList := by
        have := Array.mem_of_getElem? hc
        exact Array.mem_toList_iff.mpr this
      have hcc := zc c hm
      have hil : i < z.length := by
        have := (Array.getElem?_eq_some_iff.mp hc).1
        exact this
      refine ⟨rfl, ?_⟩
      walk_at "go"
      refine itn (by rw [cps_a]; exact not_lt_one hcc.1) ?_
      walk_at "go"
      have e2 : decide (("z" : Str).cps.toList < ({ cps := #[c] } : Str).cps.toList) = false := decide_eq_false (by rw [cps_z]; exact not_lt_one hcc.2)
      rw [e2]
      refine ⟨_, h1, Nat.lt_of_lt_of_le (show (bs.map V.bl).length < 100 by rw [List.length_map]; omega) (by decide), bs ++ [true], by rw [upd_same, List.map_append]; rfl, by rw [List.all_append, h2]; rfl, by rw [List.length_append, h3]; rfl, fun b o e => ?_⟩
      rw [upd_ne (ne_of_none e hD)]
      exact h4 b o e
    · obtain ⟨bs, h1, h2, h3, h4⟩ := hp
      walk_at "go"
      refine ⟨D, bs, rfl, SqL.of h1, ?_⟩
      rw [h2]
      exact q G h4

def spSection (K : PySem.W.Frag) : Sp := fun vs H Q _ => ∃ (t : Addr) (b e : Int) (l : Str), vs = [.ref t] ∧ SqT K H t [.int b, .int e, .str l] ∧ NameOk l ∧ ∀ H', Same H H' → Q (.bl true) H'
abbrev st__is_section : Stmt := topS 18
theorem sc__is_section : FnScope ["value", "begin", "end", "lock"] ["value"] (defScope st__is_section) := ⟨rfl, rfl, rfl, by decide +kernel, rfl, by decide +kernel, by decide +kernel⟩
theorem ok_section {f : Addr} {fd : FuncData} (F : Fun K "_is_section" "_is_section" st__is_section f fd) (B : Bts mg) (c_is_whole : Cal P w K mg base "is_whole" 1 ["value"] spWhole) (c_is_name : Cal P w K mg base "is_name" 1 ["value"] spName) :
    FnOk P w K mg base CX0 2 f fd ["value"] (spSection K) := by
  refine F.ok sc__is_section (fun vs H Q E h => ?_) (fun cdv A outer s H vs Q E hr h => ?_)
  · obtain ⟨t, b, e, l, rfl, _⟩ := h; rfl
  · obtain ⟨t, b, e, l, rfl, hS, hl, q⟩ := h
    refine ⟨_, (pss_cons (ps_if (PW.pt (pw_or (pt_not (pt_val (pe_callB (k_isi (K := K) rfl) (by rfl) B.isinstance (by decide +kernel) (pa_cons (pv 0) (pa_cons (pe_bltn (v := .ty "tuple") (by rfl) B.tuple (by decide +kernel) rfl) pa_nil))))) (pw_or1 (pt_cmpR op_ne (pe_callB (k_len (K := K) rfl) (by rfl) B.len (by decide +kernel) (pa_cons (pv 0) pa_nil)) pe_int (nomark _))))) (pss_one (ps_ret pe_bl)) pss_nil)
  (pss_cons (ps_asg (pv 0) (kg_tup (K := K) rfl (pg_tup (by rfl) (pgs_cons (pg_name (i := 1) sc__is_section.nd rfl (by first | exact Or.inl rfl | exact Or.inr rfl)) (pgs_cons (pg_name (i := 2) sc__is_section.nd rfl (by first | exact Or.inl rfl | exact Or.inr rfl)) (pgs_cons (pg_name (i := 3) sc__is_section.nd rfl (by first | exact Or.inl rfl | exact Or.inr rfl)) pgs_nil))))))
  (pss_one (ps_ret (pe_and (pe_c c_is_whole (hr.mono (by decide)) (pa_cons (pv 1) pa_nil)) (pe_and (pe_c c_is_whole (hr.mono (by decide)) (pa_cons (pv 2) pa_nil)) (pe_one (pe_c c_is_name (hr.mono (by decide)) (pa_cons (pv 3) pa_nil))))))))), ?_⟩
    walk_at "go"
    exact q
def spSects (K : PySem.W.Frag) : Sp := fun vs H Q _ => ∃ (t : Addr) (L : Int) (secs : List Sec), vs = [.ref t, .int L] ∧ Dp K H (.ref t) (.tuple (secs.map secD)) ∧ secs.length ≤ 8 ∧
  (∀ s ∈ secs, 0 ≤ s.1 ∧ s.1 < s.2.1 ∧ s.2.1 < L ∧ NameOk s.2.2) ∧ secs.Pairwise (fun s t => s.2.1 ≤ t.1) ∧ ∀ H', Same H H' → Q (.bl true) H'
abbrev st__are_sections : Stmt := topS 19
theorem sc__are_sections : FnScope ["value", "longest", "free", "begin", "end", "_", "section"] ["value", "longest"] (defScope st__are_sections) := ⟨rfl, rfl, rfl, by decide +kernel, rfl, by decide +kernel, by decide +kernel⟩
theorem ok_sects {f : Addr} {fd : FuncData} (F : Fun K "_are_sections" "_are_sections" st__are_sections f fd) (B : Bts mg) (k_MAX_SECTIONS : Kst mg "MAX_SECTIONS" (.int 8)) (c__is_section : Cal P w K mg base "_is_section" 2 ["value"] (spSection K)) :
    FnOk P w K mg base CX0 3 f fd ["value", "longest"] (spSects K) := by
  refine F.ok sc__are_sections (fun vs H Q E h => ?_) (fun cdv A outer s H vs Q E hr h => ?_)
  · obtain ⟨t, L, secs, rfl, _⟩ := h; rfl
  · obtain ⟨t, L, secs, rfl, hD, h8, hs, hp, q⟩ := h
    obtain ⟨t', xs, e, hS, hA⟩ := dp_tup hD
    cases e
    have hlx : xs.length = secs.length := by rw [dpAll_len hA, List.length_map]
    refine ⟨_, (pss_cons (ps_if (PW.pt (pw_or (pt_not (pt_val (pe_callB (k_isi (K := K) rfl) (by rfl) B.isinstance (by decide +kernel) (pa_cons (pv 0) (pa_cons (pe_bltn (v := .ty "tuple") (by rfl) B.tuple (by decide +kernel) rfl) pa_nil))))) (pw_or1 (pt_cmpR op_gt (pe_callB (k_len (K := K) rfl) (by rfl) B.len (by decide +kernel) (pa_cons (pv 0) pa_nil)) (pe_k k_MAX_SECTIONS) (nomark _))))) (pss_one (ps_ret pe_bl)) pss_nil)
  (pss_cons (ps_if (pt_not (pt_val (pe_callB (k_all (K := K) rfl rfl) (by rfl) B.all (by decide +kernel) (pa_cons (pe_lc (own := [("section", 6)]) (g := gName 6) (tt := tYes) rfl sc__are_sections.nd  (pi_tup (pv 0)) (blkOk_by (own := [("section", 6)]) (N := ["value", "longest", "free", "begin", "end", "_", "section"]) (sc := defScope st__are_sections) (by decide +kernel)) (fun _ _ _ _ _ => pg_name (i := 6) sc__are_sections.nd rfl (by first | exact Or.inl rfl | exact Or.inr rfl)) (fun _ _ _ _ _ => pts_nil) (fun _ _ _ _ _ => (pe_c c__is_section (hr.mono (by decide)) (pa_cons (pv 6) pa_nil)))) pa_nil)))) (pss_one (ps_ret pe_bl)) pss_nil)
  (pss_cons (ps_set (i := 2) sc__are_sections.nd rfl (by first | exact Or.inl rfl | exact Or.inr rfl) pe_int)
  (pss_cons (ps_for PassesOwn.never rfl (pi_tup (pv 0)) (kg_tup (K := K) rfl (pg_tup (by rfl) (pgs_cons (pg_name (i := 3) sc__are_sections.nd rfl (by first | exact Or.inl rfl | exact Or.inr rfl)) (pgs_cons (pg_name (i := 4) sc__are_sections.nd rfl (by first | exact Or.inl rfl | exact Or.inr rfl)) (pgs_cons (pg_name (i := 5) sc__are_sections.nd rfl (by first | exact Or.inl rfl | exact Or.inr rfl)) pgs_nil))))) (pss_cons (ps_if (pt_not (pt_chain3 op_le op_lt op_lt (pv 2) (pv 3) (pv 4) (pv 1))) (pss_one (ps_ret pe_bl)) pss_nil)
    (pss_one (ps_set (i := 2) sc__are_sections.nd rfl (by first | exact Or.inl rfl | exact Or.inr rfl) (pv 4)))))
  (pss_one (ps_ret pe_bl)))))), ?_⟩
    walk_at "go"
    refine itdF (by omega) ?_
    have at_sec : ∀ (i : Nat) (x : V), xs[i]? = some x → ∃ s t2, secs[i]? = some s ∧ s ∈ secs ∧ x = .ref t2 ∧ SqT K H t2 [.int s.1, .int s.2.1, .str s.2.2] := fun i x hx => by
      obtain ⟨d, h1, h2⟩ := dpAll_get hA hx
      rw [List.getElem?_map] at h1
      obtain ⟨s, hs1, rfl⟩ := Option.map_eq_some_iff.mp h1
      obtain ⟨t2, e2, h3⟩ := dp_sec h2
      exact ⟨s, t2, hs1, List.mem_of_getElem? hs1, e2, h3⟩
    walk_at "go"
    refine ⟨⟨xs, hS⟩, fun D hD' => ?_⟩
    refine lc_tup (K := K) (a := t) (xs := xs) (fun i G => ∃ bs : List Bool, G D = some (.lst (bs.map V.bl)) ∧ bs.all id = true ∧ bs.length = i ∧ Same H G) ⟨[], upd_same, rfl, rfl, sameNew hD'⟩ (fun i G _ ⟨_, _, _, _, hh⟩ => (tks hh).seq hS) (fun i x G hxi hp' => ?_) (fun G hp' => ?_)
    · obtain ⟨bs, h1, h2, h3, h4⟩ := hp'
      obtain ⟨s, t2, hs1, hsm, rfl, hs2⟩ := at_sec i x hxi
      have hil := (List.getElem?_eq_some_iff.mp hs1).1
      refine ⟨rfl, ?_⟩
      walk_at "go"
      refine ⟨_, _, _, _, rfl, (tks h4).seq hs2, (hs s hsm).2.2.2, fun H' hH' => ?_⟩
      refine ⟨_, hH' _ _ h1, Nat.lt_of_lt_of_le (show (bs.map V.bl).length < 100 by rw [List.length_map]; omega) (by decide), bs ++ [true], by rw [upd_same, List.map_append]; rfl, by rw [List.all_append, h2]; rfl, by rw [List.length_append, h3]; rfl, fun b o e => ?_⟩
      rw [upd_ne (ne_of_none e hD')]
      exact hH' b o (h4 b o e)
    · obtain ⟨bs, h1, h2, h3, h4⟩ := hp'
      walk_at "go"
      refine ⟨D, bs, rfl, SqL.of h1, true, by rw [h2], ?_⟩
      refine iteF ?_
      walk_at "go"
      have hS4 := (tks h4).seq hS
      refine ⟨⟨xs, hS4⟩, ?_⟩
      refine for_tup (K := K) (a := t) (xs := xs) (fun i σ G' => ∃ (fr : Int) (t3 t4 t5 t6 : Option V), σ = [some (.ref t), some (.int L), some (.int fr), t3, t4, t5, t6] ∧ Same H G' ∧ 0 ≤ fr ∧ (∀ j s, i ≤ j → secs[j]? = some s → fr ≤ s.1))
        ⟨0, _, _, _, _, rfl, h4, Int.le_refl 0, fun j s _ hj => (hs s (List.mem_of_getElem? hj)).1⟩ (fun i σ G' _ ⟨_, _, _, _, _, _, hh, _⟩ => (tks hh).seq hS) (fun i x σ G' hxi hp' => ?_) (fun σ G' hp' => ?_)
      · obtain ⟨fr, t3, t4, t5, t6, rfl, h5, h6, h7⟩ := hp'
        obtain ⟨s, t2, hs1, hsm, rfl, hs2⟩ := at_sec i x hxi
        have hs3 := (tks h5).seq hs2
        have hb := hs s hsm
        have hf := h7 i s (Nat.le_refl i) hs1
        walk_at "go"
        refine itd hf ?_
        walk_at "go"
        refine itd hb.2.1 ?_
        walk_at "go"
        refine iteNS hb.2.2.1 ?_
        walk_at "go"
        refine ⟨s.2.1, _, _, _, _, rfl, h5, by omega, fun j s' hj hj' => ?_⟩
        obtain ⟨hil, hie⟩ := List.getElem?_eq_some_iff.mp hs1
        obtain ⟨hjl, hje⟩ := List.getElem?_eq_some_iff.mp hj'
        have := List.pairwise_iff_getElem.mp hp i j hil hjl (by omega)
        rw [hie, hje] at this
        exact this
      · obtain ⟨fr, t3, t4, t5, t6, rfl, h5, h6, h7⟩ := hp'
        walk_at "go"
        exact q G' h5

def spNums (K : PySem.W.Frag) : Sp := fun vs H Q _ => ∃ (t : Addr) (a b c d : Int), vs = [.ref t] ∧ SqT K H t [.int a, .int b, .int c, .int d] ∧ (1 ≤ a ∧ a ≤ 100) ∧ (1 ≤ b ∧ b ≤ 1000) ∧ (1 ≤ c ∧ c ≤ 20000) ∧ (0 ≤ d ∧ d ≤ 1000000) ∧ ∀ H', Same H H' → Q (.bl true) H'
/-- a tuple of the module -/
def Ktp (K : PySem.W.Frag) (mg : Str → Option Value) (x : Str) (xs : List V) : Prop := ∃ a, mg x = some (.ref a) ∧ ∀ H, SqT K H a xs
abbrev st__are_numbers : Stmt := topS 20
theorem sc__are_numbers : FnScope ["value", "number", "least", "most"] ["value"] (defScope st__are_numbers) := ⟨rfl, rfl, rfl, by decide +kernel, rfl, by decide +kernel, by decide +kernel⟩
theorem ok_nums {f : Addr} {fd : FuncData} (F : Fun K "_are_numbers" "_are_numbers" st__are_numbers f fd) (B : Bts mg) (t_LEAST : Ktp K mg "LEAST_NUMBERS" [.int 1, .int 1, .int 1, .int 0]) (t_GREATEST : Ktp K mg "GREATEST_NUMBERS" [.int 100, .int 1000, .int 20000, .int 1000000])
    (c_is_between : Cal P w K mg base "is_between" 2 ["value", "least", "most"] spBetween) : FnOk P w K mg base CX0 3 f fd ["value"] (spNums K) := by
  refine F.ok sc__are_numbers (fun vs H Q E h => ?_) (fun cdv A outer s H vs Q E hr h => ?_)
  · obtain ⟨t, a, b, c, d, rfl, _⟩ := h; rfl
  · obtain ⟨t, a, b, c, d, rfl, hS, ha, hb, hc, hd, q⟩ := h
    obtain ⟨aL, mL, sL⟩ := t_LEAST
    obtain ⟨aG, mG, sG⟩ := t_GREATEST
    have k_LEAST_NUMBERS : Kst mg "LEAST_NUMBERS" (.ref aL) := ⟨_, mL, rfl⟩
    have k_GREATEST_NUMBERS : Kst mg "GREATEST_NUMBERS" (.ref aG) := ⟨_, mG, rfl⟩
    refine ⟨_, (pss_cons (ps_for PassesOwn.never rfl (pi_zip3 (by rfl) B.zip (pa_cons (pv 0) (pa_cons (pe_k k_LEAST_NUMBERS) (pa_cons (pe_k k_GREATEST_NUMBERS) pa_nil)))) (kg_tup (K := K) rfl (pg_tup (by rfl) (pgs_cons (pg_name (i := 1) sc__are_numbers.nd rfl (by first | exact Or.inl rfl | exact Or.inr rfl)) (pgs_cons (pg_name (i := 2) sc__are_numbers.nd rfl (by first | exact Or.inl rfl | exact Or.inr rfl)) (pgs_cons (pg_name (i := 3) sc__are_numbers.nd rfl (by first | exact Or.inl rfl | exact Or.inr rfl)) pgs_nil))))) (pss_one (ps_if (pt_not (pt_val (pe_c c_is_between (hr.mono (by decide)) (pa_cons (pv 1) (pa_cons (pv 2) (pa_cons (pv 3) pa_nil)))))) (pss_one (ps_ret pe_bl)) pss_nil)))
  (pss_one (ps_ret pe_bl))), ?_⟩
    walk_at "go"
    refine ⟨t, aL, aG, _, _, _, rfl, hS, sL _, sG _, ?_⟩
    refine for_zip3 (xs := [.int a, .int b, .int c, .int d]) (ys := [.int 1, .int 1, .int 1, .int 0]) (zs := [.int 100, .int 1000, .int 20000, .int 1000000]) rfl rfl (fun i σ G => ∃ t1 t2 t3 : Option V, σ = [some (.ref t), t1, t2, t3] ∧ Same H G) ⟨_, _, _, rfl, fun _ _ e => e⟩ (fun i σ G ⟨_, _, _, _, hh⟩ => ⟨(tks hh).seq hS, sL _, sG _⟩) (fun i x y z T σ G hx hy hz hp hT => ?_) (fun σ G hp => ?_)
    · obtain ⟨t1, t2, t3, rfl, hs⟩ := hp
      have hs' : Same H (upd G T (.tup [x, y, z])) := fun b o e => by rw [upd_ne (ne_of_none (hs b o e) hT)]; exact hs b o e
      obtain ⟨u, v, w', rfl, rfl, rfl, hle, hge⟩ : ∃ u v w' : Int, x = .int u ∧ y = .int v ∧ z = .int w' ∧ v ≤ u ∧ u ≤ w' := by
        rcases i with _ | _ | _ | _ | i
        · exact ⟨a, 1, 100, (Option.some.inj hx).symm, (Option.some.inj hy).symm, (Option.some.inj hz).symm, ha⟩
        · exact ⟨b, 1, 1000, (Option.some.inj hx).symm, (Option.some.inj hy).symm, (Option.some.inj hz).symm, hb⟩
        · exact ⟨c, 1, 20000, (Option.some.inj hx).symm, (Option.some.inj hy).symm, (Option.some.inj hz).symm, hc⟩
        · exact ⟨d, 0, 1000000, (Option.some.inj hx).symm, (Option.some.inj hy).symm, (Option.some.inj hz).symm, hd⟩
        · simp at hx
      refine ⟨T, _, rfl, .inl (.inl upd_same), rfl, ?_⟩
      walk_at "go"
      refine iteNS ⟨hle, hge⟩ ?_
      exact ⟨_, _, _, rfl, hs'⟩
    · obtain ⟨t1, t2, t3, rfl, hs⟩ := hp
      walk_at "go"
      exact q G hs

def spTask (K : PySem.W.Frag) : Sp := fun vs H Q _ => ∃ (t : Addr) (l : Ln), vs = [.ref t] ∧ Dp K H (.ref t) (lnD l) ∧ TkOk l ∧ ∀ H', Same H H' → Q (.bl true) H'
abbrev st_is_task : Stmt := topS 21
theorem sc_is_task : FnScope ["value"] ["value"] (defScope st_is_task) := ⟨rfl, rfl, rfl, by decide +kernel, rfl, by decide +kernel, by decide +kernel⟩
theorem ok_task {f : Addr} {fd : FuncData} (F : Fun K "is_task" "is_task" st_is_task f fd) (B : Bts mg) (t_FIELDS : Ktp K mg "FIELDS" [.str "name", .str "longest", .str "gap", .str "deadline", .str "room", .str "sections"])
    (k_NAME : Kst mg "NAME" (.int 0)) (k_LONGEST : Kst mg "LONGEST" (.int 1)) (k_SECTIONS : Kst mg "SECTIONS" (.int 5)) (c_is_name : Cal P w K mg base "is_name" 1 ["value"] spName)
    (c__are_numbers : Cal P w K mg base "_are_numbers" 3 ["value"] (spNums K)) (c__are_sections : Cal P w K mg base "_are_sections" 3 ["value", "longest"] (spSects K)) : FnOk P w K mg base CX0 4 f fd ["value"] (spTask K) := by
  refine F.ok sc_is_task (fun vs H Q E h => ?_) (fun cdv A outer s H vs Q E hr h => ?_)
  · obtain ⟨t, l, rfl, _⟩ := h; rfl
  · obtain ⟨t, l, rfl, hD, hok, q⟩ := h
    obtain ⟨t', sq, e, hS, hDs⟩ := dp_ln hD
    cases e
    obtain ⟨aF, mF, sF⟩ := t_FIELDS
    have k_FIELDS : Kst mg "FIELDS" (.ref aF) := ⟨_, mF, rfl⟩
    have hF := sF H
    refine ⟨_, (pss_cons (ps_if (PW.pt (pw_or (pt_not (pt_val (pe_callB (k_isi (K := K) rfl) (by rfl) B.isinstance (by decide +kernel) (pa_cons (pv 0) (pa_cons (pe_bltn (v := .ty "tuple") (by rfl) B.tuple (by decide +kernel) rfl) pa_nil))))) (pw_or1 (pt_cmpR op_ne (pe_callB (k_len (K := K) rfl) (by rfl) B.len (by decide +kernel) (pa_cons (pv 0) pa_nil)) (pe_callB (k_len (K := K) rfl) (by rfl) B.len (by decide +kernel) (pa_cons (pe_k k_FIELDS) pa_nil)) (nomark _))))) (pss_one (ps_ret pe_bl)) pss_nil)
  (pss_cons (ps_if (PW.pt (pw_or (pt_not (pt_val (pe_c c_is_name (hr.mono (by decide)) (pa_cons (pe_ix (kx_tup (K := K) rfl) (pv 0) (pe_k k_NAME) (fun _ _ => rfl)) pa_nil)))) (pw_or1 (pt_not (pt_val (pe_c c__are_numbers (hr.mono (by decide)) (pa_cons (pe_slice sl_tup (pv 0) (po_some (pe_k k_LONGEST)) (po_some (pe_k k_SECTIONS))) pa_nil))))))) (pss_one (ps_ret pe_bl)) pss_nil)
  (pss_one (ps_ret (pe_c c__are_sections (hr.mono (by decide)) (pa_cons (pe_ix (kx_tup (K := K) rfl) (pv 0) (pe_k k_SECTIONS) (fun _ _ => rfl)) (pa_cons (pe_ix (kx_tup (K := K) rfl) (pv 0) (pe_k k_LONGEST) (fun _ _ => rfl)) pa_nil))))))), ?_⟩
    walk_at "go"
    refine ⟨hok.nm, fun H1 h1 => ?_⟩
    have hS1 := (tks h1).seq hS
    walk_at "go"
    refine ⟨t, _, rfl, hS1, fun z => absurd z.1 (show ¬ (1 = 0) by decide), fun p hp => ?_⟩
    have h2 : Same H (upd H1 p (.tup [.int l.high, .int l.wide, .int l.due, .int l.room])) := fun b o e => by rw [upd_ne (ne_of_none (h1 b o e) hp)]; exact h1 b o e
    walk_at "go"
    refine ⟨p, l.high, l.wide, l.due, l.room, rfl, .inl (.inl upd_same), hok.hi, hok.wd, hok.du, hok.rm, fun H3 h3' => ?_⟩
    have h3 : Same H H3 := fun b o e => h3' b o (h2 b o e)
    have hS3 := (tks h3).seq hS
    walk_at "go"
    exact ⟨sq, l.high, l.secs, rfl, dp_tk (tks h3) _ _ (by simpa [tupOnly] using secs_tup l.secs) hDs, hok.sl, hok.sc, hok.ap, fun H4 h4 => q H4 fun b o e => h4 b o (h3 b o e)⟩
def spCkTask (K : PySem.W.Frag) : Sp := fun vs H Q _ => ∃ (t : Addr) (l : Ln), vs = [.ref t] ∧ Dp K H (.ref t) (lnD l) ∧ TkOk l ∧ ∀ H', Same H H' → Q .non H'
abbrev st_check_task : Stmt := topS 22
theorem sc_check_task : FnScope ["task"] ["task"] (defScope st_check_task) := ⟨rfl, rfl, rfl, by decide +kernel, rfl, by decide +kernel, by decide +kernel⟩
theorem ok_ckTask {f : Addr} {fd : FuncData} (F : Fun K "check_task" "check_task" st_check_task f fd) (c_is_task : Cal P w K mg base "is_task" 4 ["value"] (spTask K)) : FnOk P w K mg base CX0 5 f fd ["task"] (spCkTask K) := by
  refine F.ok sc_check_task (fun vs H Q E h => ?_) (fun cdv A outer s H vs Q E hr h => ?_)
  · obtain ⟨t, l, rfl, _⟩ := h; rfl
  · obtain ⟨t, l, rfl, hD, hok, q⟩ := h
    refine ⟨_, (pss_one (ps_if (pt_not (pt_val (pe_c c_is_task (hr.mono (by decide)) (pa_cons (pv 0) pa_nil)))) (pss_one ps_never) pss_nil)), ?_⟩
    walk_at "go"
    refine ⟨t, l, rfl, hD, hok, fun H' h => ?_⟩
    walk_at "go"
    exact q H' h
end
end Pre

set_option Elab.async false
set_option linter.all false
set_option maxRecDepth 100000
set_option maxHeartbeats 4000000
namespace Pre
open PySem PySem.Spec PyProof.Rows L2 Gd
local macro_rules | `(tactic| walk_at "side") => `(tactic| ((try dsimp only); first | exact rfl | decide | omega | exact Nat.le_of_ble_eq_true rfl | exact Or.inl ⟨by decide, by decide⟩ | exact Or.inr ⟨by decide, by decide⟩ | exact ⟨by decide, by decide⟩ | exact ⟨by omega, by omega⟩ | exact fm64 (by decide) (by decide) | exact ⟨by decide, by decide, by decide⟩ | decide +kernel | exact ⟨by decide +kernel, by decide +kernel⟩))
local macro_rules | `(tactic| walk_at "go1") => `(tactic| first | refine ⟨_, rfl, ?_⟩ | refine ⟨_, _, rfl, rfl, ?_⟩ | refine ⟨_, _, rfl, ?_⟩ | refine Or.inl ⟨_, rfl, ?_⟩ | refine Or.inr ⟨_, rfl, ?_⟩ | refine ⟨_, _, _, rfl, ?_⟩ | refine ⟨_, _, _, _, rfl, ?_⟩ | refine ⟨_, _, _, _, rfl, rfl, by first | assumption | exact SqL.of upd_same | exact upd_same, by rfl, ?_⟩ | refine ⟨_, _, _, _, true, rfl, .ty _, .base (.int _), kit_ty (by decide +kernel), ?_⟩ | refine ⟨_, _, _, _, false, rfl, .ty _, .base (.int _), kit_ty (by decide +kernel), ?_⟩ | refine ⟨_, _, _, _, true, rfl, .ty _, .base (.str _), kit_ty (by decide +kernel), ?_⟩ | refine ⟨_, _, _, _, true, rfl, .ty _, tyx_t (by assumption), kit_ty (by decide +kernel), ?_⟩ | refine ⟨_, _, rfl, .inl (by assumption), ?_⟩ | refine ⟨_, _, rfl, .inr (by assumption), ?_⟩ | refine ⟨_, _, rfl, by assumption, by rfl, ?_⟩ | refine And.intro (by walk_at "side") ?_)
local macro_rules | `(tactic| walk_at "go") => `(tactic| repeat walk_at "go1")
section
variable {P : Program} {w : World} {K : PySem.W.Frag} {mg : Str → Option Value} {base : Heap}

/-! ### the lock that is held, the lengths of sections -/
def inS (r : Int) (s : Sec) : Bool := decide (s.1 < r ∧ r < s.2.1)
def lockAt (secs : List Sec) (r : Int) : Option Str := (secs.find? (inS r)).map (·.2.2)
def lockV : Option Str → V
  | none => .non
  | some z => .str z
/-- a task stands at t, its sections at q -/
structure TkAt (K : PySem.W.Frag) (H : Hp) (t : Addr) (l : Ln) : Prop where
  dp : Dp K H (.ref t) (lnD l)
  ok : TkOk l
theorem TkAt.same {H H' : Hp} {t : Addr} {l : Ln} (x : TkAt K H t l) (h : TK H H') : TkAt K H' t l := ⟨dp_tk h _ _ (by simp [lnD, tupOnly, tupAll, secs_tup]) x.dp, x.ok⟩
theorem at_sec {H : Hp} {q : Addr} {secs : List Sec} (h : Dp K H (.ref q) (.tuple (secs.map secD))) : ∃ xs, SqT K H q xs ∧ xs.length = secs.length ∧ ∀ (i : Nat) (x : V), xs[i]? = some x → ∃ s t2, secs[i]? = some s ∧ s ∈ secs ∧ x = .ref t2 ∧ SqT K H t2 [.int s.1, .int s.2.1, .str s.2.2] := by
  obtain ⟨t', xs, e, hS, hA⟩ := dp_tup h
  cases e
  refine ⟨xs, hS, by rw [dpAll_len hA, List.length_map], fun i x hx => ?_⟩
  obtain ⟨d, h1, h2⟩ := dpAll_get hA hx
  rw [List.getElem?_map] at h1
  obtain ⟨s, hs1, rfl⟩ := Option.map_eq_some_iff.mp h1
  obtain ⟨t2, e2, h3⟩ := dp_sec h2
  exact ⟨s, t2, hs1, List.mem_of_getElem? hs1, e2, h3⟩
theorem find_first {secs : List Sec} {i : Nat} {s : Sec} {r : Int} (h : secs[i]? = some s) (hs : inS r s = true) (hb : ∀ (j : Nat) (s : Sec), j < i → secs[j]? = some s → inS r s = false) : lockAt secs r = some s.2.2 := by
  obtain ⟨hl, he⟩ := List.getElem?_eq_some_iff.mp h
  have e : secs.find? (inS r) = some s := by
    rw [List.find?_eq_some_iff_getElem]
    refine ⟨hs, i, hl, he, fun j hj => ?_⟩
    have := hb j secs[j] hj (List.getElem?_eq_getElem (by omega))
    rw [this]; rfl
  unfold lockAt
  rw [e]; rfl
theorem find_no {secs : List Sec} {r : Int} (hb : ∀ (j : Nat) (s : Sec), secs[j]? = some s → inS r s = false) : lockAt secs r = none := by
  have e : secs.find? (inS r) = none := by
    rw [List.find?_eq_none]
    intro s hs
    obtain ⟨j, hj⟩ := List.getElem?_of_mem hs
    rw [hb j s hj]; exact Bool.false_ne_true
  unfold lockAt
  rw [e]; rfl
def spLock (K : PySem.W.Frag) : Sp := fun vs H Q _ => ∃ (t : Addr) (l : Ln) (r : Int), vs = [.ref t, .int r] ∧ TkAt K H t l ∧ 0 ≤ r ∧ r ≤ l.high - 1 ∧ ∀ H', Same H H' → Q (lockV (lockAt l.secs r)) H'
abbrev st_lock_inside : Stmt := topS 25
theorem sc_lock_inside : FnScope ["task", "ran", "begin", "end", "lock"] ["task", "ran"] (defScope st_lock_inside) := ⟨rfl, rfl, rfl, by decide +kernel, rfl, by decide +kernel, by decide +kernel⟩
theorem ok_lock {f : Addr} {fd : FuncData} (F : Fun K "lock_inside" "lock_inside" st_lock_inside f fd) (B : Bts mg) (k_LONGEST : Kst mg "LONGEST" (.int 1)) (k_SECTIONS : Kst mg "SECTIONS" (.int 5))
    (c_check_task : Cal P w K mg base "check_task" 5 ["task"] (spCkTask K)) (c_check_between : Cal P w K mg base "check_between" 3 ["value", "least", "most"] spCheck) : FnOk P w K mg base CX0 6 f fd ["task", "ran"] (spLock K) := by
  refine F.ok sc_lock_inside (fun vs H Q E h => ?_) (fun cdv A outer s H vs Q E hr h => ?_)
  · obtain ⟨t, l, r, rfl, _⟩ := h; rfl
  · obtain ⟨t, l, r, rfl, ⟨hD, hok⟩, r0, r1, q⟩ := h
    obtain ⟨t', sq, e, hS, hDs⟩ := dp_ln hD
    cases e
    refine ⟨_, (pss_cons (ps_expr (pe_c c_check_task (hr.mono (by decide)) (pa_cons (pv 0) pa_nil)))
  (pss_cons (ps_expr (pe_c c_check_between (hr.mono (by decide)) (pa_cons (pv 1) (pa_cons pe_int (pa_cons (pe_op op_sub (pe_ix (kx_tup (K := K) rfl) (pv 0) (pe_k k_LONGEST) (fun _ _ => rfl)) pe_int) pa_nil)))))
  (pss_cons (ps_for PassesOwn.never rfl (pi_tup (pe_ix (kx_tup (K := K) rfl) (pv 0) (pe_k k_SECTIONS) (fun _ _ => rfl))) (kg_tup (K := K) rfl (pg_tup (by rfl) (pgs_cons (pg_name (i := 2) sc_lock_inside.nd rfl (by first | exact Or.inl rfl | exact Or.inr rfl)) (pgs_cons (pg_name (i := 3) sc_lock_inside.nd rfl (by first | exact Or.inl rfl | exact Or.inr rfl)) (pgs_cons (pg_name (i := 4) sc_lock_inside.nd rfl (by first | exact Or.inl rfl | exact Or.inr rfl)) pgs_nil))))) (pss_one (ps_if (pt_chain op_lt op_lt (pv 2) (pv 1) (pv 3)) (pss_one (ps_ret (pv 4))) pss_nil)))
  (pss_one (ps_ret pe_non))))), ?_⟩
    walk_at "go"
    refine ⟨t, l, rfl, hD, hok, fun H1 h1 => ?_⟩
    have hS1 := (tks h1).seq hS
    obtain ⟨xs, hX0, hlx, hat⟩ := at_sec hDs
    have hX := (tks h1).seq hX0
    walk_at "go"
    refine ⟨⟨xs, hX⟩, ?_⟩
    refine for_tup (K := K) (a := sq) (xs := xs) (fun i σ G' => ∃ (t2 t3 t4 : Option V), σ = [some (.ref t), some (.int r), t2, t3, t4] ∧ Same H G' ∧ ∀ (j : Nat) (s : Sec), j < i → l.secs[j]? = some s → inS r s = false)
      ⟨_, _, _, rfl, h1, fun j s hj => absurd hj (Nat.not_lt_zero _)⟩ (fun i σ G' _ ⟨_, _, _, _, hh, _⟩ => (tks hh).seq hX0) (fun i x σ G' hxi hp' => ?_) (fun σ G' hp' => ?_)
    · obtain ⟨t2, t3, t4, rfl, h5, h6⟩ := hp'
      obtain ⟨s, t2', hs1, hsm, rfl, hs2⟩ := hat i x hxi
      have hs3 : SqT K G' t2' [.int s.1, .int s.2.1, .str s.2.2] := (tks h5).seq hs2
      have more : inS r s = false → ∀ (j : Nat) (s' : Sec), j < i + 1 → l.secs[j]? = some s' → inS r s' = false := fun hn j s' hj hj' => by
        by_cases e : j = i
        · subst e; rw [hs1] at hj'; cases hj'; exact hn
        · exact h6 j s' (by omega) hj'
      walk_at "go"
      refine ite2 (fun c => ?_) (fun c => ?_)
      · have c' := of_decide_eq_true c
        walk_at "go"
        refine ite2 (fun d => ?_) (fun d => ?_)
        · have d' := of_decide_eq_true d
          walk_at "go"
          rw [find_first hs1 (show inS r s = true from decide_eq_true ⟨c', d'⟩) h6] at q
          exact q G' h5
        · walk_at "go"
          exact more (decide_eq_false fun z => d (decide_eq_true z.2))
      · walk_at "go"
        exact more (decide_eq_false fun z => c (decide_eq_true z.1))
    · obtain ⟨t2, t3, t4, rfl, h5, h6⟩ := hp'
      walk_at "go"
      rw [find_no fun j s hj => h6 j s (by have := (List.getElem?_eq_some_iff.mp hj).1; omega) hj] at q
      exact q G' h5

/-! ### section_lengths -/
def lenStep (z : Str) (o : Option Int) (s : Sec) : Option Int := if s.2.2 = z then some (if o.getD 0 > s.2.1 - s.1 then o.getD 0 else s.2.1 - s.1) else o
def lenO (secs : List Sec) (z : Str) : Option Int := secs.foldl (lenStep z) none
theorem lenO_snoc (ss : List Sec) (s : Sec) (z : Str) : lenO (ss ++ [s]) z = lenStep z (lenO ss z) s := by simp [lenO, List.foldl_append]
theorem lenO_some (z : Str) : ∀ (ss : List Sec) (o : Option Int), (ss.foldl (lenStep z) o).isSome = true ↔ o.isSome = true ∨ ∃ s ∈ ss, s.2.2 = z
  | [], o => by simp
  | s :: r, o => by
    rw [List.foldl_cons, lenO_some z r]
    by_cases c : s.2.2 = z
    · simp [lenStep, c]
    · simp [lenStep, c]
theorem lenO_max (z : Str) (ss : List Sec) (hp : ∀ s ∈ ss, s.1 < s.2.1) : ∀ M, lenO ss z = some M → (∃ s ∈ ss, s.2.2 = z ∧ s.2.1 - s.1 = M) ∧ ∀ s ∈ ss, s.2.2 = z → s.2.1 - s.1 ≤ M := by
  have gen : ∀ (ss : List Sec) (o : Option Int), (∀ s ∈ ss, s.1 < s.2.1) → (∀ m, o = some m → 0 < m) → ∀ M, ss.foldl (lenStep z) o = some M → ((o = some M) ∨ ∃ s ∈ ss, s.2.2 = z ∧ s.2.1 - s.1 = M) ∧ (∀ m, o = some m → m ≤ M) ∧ ∀ s ∈ ss, s.2.2 = z → s.2.1 - s.1 ≤ M := by
    intro ss
    induction ss with
    | nil => intro o _ _ M h; exact ⟨.inl h, fun m hm => by simp only [List.foldl_nil] at h; rw [h] at hm; cases hm; exact Int.le_refl _, fun s hs => (nomatch hs)⟩
    | cons s r ih =>
      intro o hp h0 M h
      rw [List.foldl_cons] at h
      have hs := hp s List.mem_cons_self
      have hr : ∀ s ∈ r, s.1 < s.2.1 := fun s hs => hp s (List.mem_cons_of_mem _ hs)
      by_cases c : s.2.2 = z
      · have e : lenStep z o s = some (if o.getD 0 > s.2.1 - s.1 then o.getD 0 else s.2.1 - s.1) := by unfold lenStep; rw [if_pos c]
        have hpos : ∀ m, lenStep z o s = some m → 0 < m := fun m hm => by
          rw [e] at hm; cases hm
          split <;> omega
        obtain ⟨a1, a2, a3⟩ := ih _ hr hpos M h
        have ge := a2 _ e
        refine ⟨?_, fun m hm => ?_, fun s' hs' hz => ?_⟩
        · rcases a1 with a1 | ⟨s', h1, h2⟩
          · rw [e] at a1
            injection a1 with a1
            by_cases g : o.getD 0 > s.2.1 - s.1
            · rw [if_pos g] at a1
              cases o with
              | none => simp at g; omega
              | some m => left; simp at a1; rw [a1]
            · rw [if_neg g] at a1
              exact .inr ⟨s, List.mem_cons_self, c, a1⟩
          · exact .inr ⟨s', List.mem_cons_of_mem _ h1, h2⟩
        · subst hm
          simp only [Option.getD_some] at ge
          split at ge <;> omega
        · rcases List.mem_cons.mp hs' with rfl | hs'
          · split at ge <;> omega
          · exact a3 s' hs' hz
      · have e : lenStep z o s = o := by unfold lenStep; rw [if_neg c]
        rw [e] at h
        obtain ⟨a1, a2, a3⟩ := ih o hr h0 M h
        refine ⟨?_, a2, fun s' hs' hz => ?_⟩
        · rcases a1 with a1 | ⟨s', h1, h2⟩
          · exact .inl a1
          · exact .inr ⟨s', List.mem_cons_of_mem _ h1, h2⟩
        · rcases List.mem_cons.mp hs' with rfl | hs'
          · exact absurd hz c
          · exact a3 s' hs' hz
  intro M h
  obtain ⟨a1, _, a3⟩ := gen ss none hp (fun m hm => by cases hm) M h
  exact ⟨a1.resolve_left (fun z => by cases z), a3⟩
def row (f : Str → Int) (z : Str) : Key × V := (.inr z, .int (f z))
/-- the dict tells the greatest lengths, the locks in their order -/
def LenD (secs : List Sec) (kvs : List (Key × V)) : Prop := ∃ ys : List Str, kvs = ys.map (row fun z => (lenO secs z).getD 0) ∧ ys.Nodup ∧ sortedS ys = true ∧ ∀ z, z ∈ ys ↔ ∃ s ∈ secs, s.2.2 = z
theorem LenD.one {secs : List Sec} {a b : List (Key × V)} (x : LenD secs a) (y : LenD secs b) : a = b := by
  obtain ⟨ys, rfl, n1, s1, m1⟩ := x
  obtain ⟨zs, rfl, n2, s2, m2⟩ := y
  rw [sortedS_one n1 n2 s1 s2 fun z => (m1 z).trans (m2 z).symm]
/-- behind the sections ss -/
structure LenP (ss : List Sec) (kvs : List (Key × V)) : Prop where
  val : ∀ z, valV kvs (.inr z) = (lenO ss z).map V.int
  key : ∃ ks : List Str, kvs.map (·.1) = ks.map Sum.inr ∧ ks.Nodup ∧ ks.length ≤ ss.length ∧ ∀ z, z ∈ ks ↔ ∃ s ∈ ss, s.2.2 = z
theorem keys_put (kvs : List (Key × V)) (k : Key) (v : V) : (putK kvs k v).map (·.1) = if k ∈ kvs.map (·.1) then kvs.map (·.1) else kvs.map (·.1) ++ [k] := by
  have e : (kvs.any fun kv => decide (kv.1 = k)) = decide (k ∈ kvs.map (·.1)) := by
    rw [Bool.eq_iff_iff]
    simp [List.any_eq_true, List.mem_map]
  unfold putK
  rw [e]
  by_cases c : k ∈ kvs.map (·.1)
  · rw [if_pos c]
    simp only [decide_eq_true c, if_true, List.map_map]
    refine List.map_congr_left fun p _ => ?_
    by_cases d : p.1 = k
    · simp [d]
    · simp [d]
  · rw [if_neg c]
    simp [decide_eq_false c]
theorem LenP.step {ss : List Sec} {s : Sec} {kvs : List (Key × V)} (x : LenP ss kvs) : LenP (ss ++ [s]) (putK kvs (.inr s.2.2) (.int (if (lenO ss s.2.2).getD 0 > s.2.1 - s.1 then (lenO ss s.2.2).getD 0 else s.2.1 - s.1))) := by
  obtain ⟨xv, ks, e, nd, hl, hm⟩ := x
  refine ⟨fun z => ?_, ?_⟩
  · rw [valV_put, lenO_snoc]
    by_cases c : s.2.2 = z
    · subst c; simp [lenStep]
    · rw [if_neg (fun h => c (Sum.inr.inj h).symm), xv]
      simp [lenStep, c]
  · rw [keys_put, e]
    by_cases c : s.2.2 ∈ ks
    · refine ⟨ks, if_pos (List.mem_map_of_mem c), nd, by rw [List.length_append]; omega, fun z => (hm z).trans ⟨fun ⟨s', h, q⟩ => ⟨s', List.mem_append_left _ h, q⟩, fun ⟨s', h, q⟩ => ?_⟩⟩
      rcases List.mem_append.mp h with h | h
      · exact ⟨s', h, q⟩
      · rw [List.mem_singleton] at h; subst h; subst q; exact (hm _).mp c
    · refine ⟨ks ++ [s.2.2], ?_, ?_, by simp; omega, fun z => ?_⟩
      · rw [if_neg fun h => ?_, List.map_append]
        · rfl
        obtain ⟨y, hy, ey⟩ := List.mem_map.mp h
        exact c (Sum.inr.inj ey ▸ hy)
      · rw [List.nodup_append]
        refine ⟨nd, by simp, fun a ha b hb e => ?_⟩
        rw [List.mem_singleton] at hb
        exact c (hb ▸ e ▸ ha)
      · rw [List.mem_append, List.mem_singleton, hm z]
        constructor
        · rintro (⟨s', h, q⟩ | q)
          · exact ⟨s', List.mem_append_left _ h, q⟩
          · exact ⟨s, List.mem_append_right _ (List.mem_singleton.mpr rfl), q.symm⟩
        · rintro ⟨s', h, q⟩
          rcases List.mem_append.mp h with h | h
          · exact .inl ⟨s', h, q⟩
          · rw [List.mem_singleton] at h; subst h; exact .inr q.symm
theorem put_row {f : Str → Int} {ys : List Str} {i : Nat} {z : Str} (nd : ys.Nodup) (h : ys[i]? = some z) : putK ((ys.take i).map (row f)) (.inr z) (.int (f z)) = (ys.take (i + 1)).map (row f) := by
  obtain ⟨hi, he⟩ := List.getElem?_eq_some_iff.mp h
  have no : valV ((ys.take i).map (row f)) (.inr z) = none := by
    have : ((ys.take i).map (row f)).find? (fun kv => decide (kv.1 = (.inr z : Key))) = none := by
      rw [List.find?_eq_none]
      intro p hp hd
      obtain ⟨y, hy, rfl⟩ := List.mem_map.mp hp
      have e : y = z := Sum.inr.inj (of_decide_eq_true hd)
      subst e
      obtain ⟨j, hj, ej⟩ := List.mem_iff_getElem.mp hy
      rw [List.length_take] at hj
      rw [List.getElem_take] at ej
      have := List.pairwise_iff_getElem.mp nd j i (by omega) hi (by omega)
      exact this (ej.trans he.symm)
    unfold valV
    rw [this]; rfl
  rw [putK_new _ no, List.take_add_one, h, List.map_append]
  rfl
theorem nH0 {H H1 : Hp} {p : Addr} (h : H1 p = none) (x : Same H H1) : H p = none := by
  cases e : H p with
  | none => rfl
  | some o => rw [x _ _ e] at h; cases h
def spLens (K : PySem.W.Frag) : Sp := fun vs H Q _ => ∃ (t : Addr) (l : Ln), vs = [.ref t] ∧ TkAt K H t l ∧ ∀ (H' : Hp) (p : Addr) (kvs : List (Key × V)), Same H H' → H p = none → H' p = some (.dK kvs) → LenD l.secs kvs → Q (.ref p) H'
abbrev st_section_lengths : Stmt := topS 26
theorem sc_section_lengths : FnScope ["task", "lengths", "begin", "end", "lock"] ["task"] (defScope st_section_lengths) := ⟨rfl, rfl, rfl, by decide +kernel, rfl, by decide +kernel, by decide +kernel⟩
theorem ok_lens {f : Addr} {fd : FuncData} (F : Fun K "section_lengths" "section_lengths" st_section_lengths f fd) (B : Bts mg) (k_SECTIONS : Kst mg "SECTIONS" (.int 5))
    (c_check_task : Cal P w K mg base "check_task" 5 ["task"] (spCkTask K)) : FnOk P w K mg base CX0 6 f fd ["task"] (spLens K) := by
  refine F.ok sc_section_lengths (fun vs H Q E h => ?_) (fun cdv A outer s H vs Q E hr h => ?_)
  · obtain ⟨t, l, rfl, _⟩ := h; rfl
  · obtain ⟨t, l, rfl, ⟨hD, hok⟩, q⟩ := h
    obtain ⟨t', sq, e, hS, hDs⟩ := dp_ln hD
    cases e
    refine ⟨_, (pss_cons (ps_expr (pe_c c_check_task (hr.mono (by decide)) (pa_cons (pv 0) pa_nil)))
  (pss_cons (ps_set (i := 1) sc_section_lengths.nd rfl (by first | exact Or.inl rfl | exact Or.inr rfl) pe_dnewK)
  (pss_cons (ps_for PassesOwn.never rfl (pi_tup (pe_ix (kx_tup (K := K) rfl) (pv 0) (pe_k k_SECTIONS) (fun _ _ => rfl))) (kg_tup (K := K) rfl (pg_tup (by rfl) (pgs_cons (pg_name (i := 2) sc_section_lengths.nd rfl (by first | exact Or.inl rfl | exact Or.inr rfl)) (pgs_cons (pg_name (i := 3) sc_section_lengths.nd rfl (by first | exact Or.inl rfl | exact Or.inr rfl)) (pgs_cons (pg_name (i := 4) sc_section_lengths.nd rfl (by first | exact Or.inl rfl | exact Or.inr rfl)) pgs_nil))))) (pss_one (ps_dput (hu_of hr) (pv 1) (pv 4) (pe_callB (call_max2 rfl) (by rfl) B.max (by decide +kernel) (pa_cons (pe_op op_sub (pv 3) (pv 2)) (pa_cons (pe_dget2 (hu_of hr) (pv 1) (pv 4) pe_int ⟨rfl, rfl, rfl, rfl⟩) pa_nil))) rfl)))
  (pss_one (ps_ret (pe_dc (own := [("lock", 4)]) (g := gName 4) (tt := tYes) rfl sc_section_lengths.nd  (pi_list (pe_callB (call_sortedD rfl) (by rfl) B.sorted (by decide +kernel) (pa_cons (pv 1) pa_nil))) (blkOk_by (own := [("lock", 4)]) (N := ["task", "lengths", "begin", "end", "lock"]) (sc := defScope st_section_lengths) (by decide +kernel)) (fun _ _ _ _ _ => pg_name (i := 4) sc_section_lengths.nd rfl (by first | exact Or.inl rfl | exact Or.inr rfl)) (fun _ _ _ _ _ => pts_nil) (fun _ _ _ _ _ => (pv 4)) (fun _ _ _ _ _ => (pe_dget (hu_of hr) (pv 1) (pv 4) (fun _ _ => rfl))))))))), ?_⟩
    walk_at "go"
    refine ⟨t, l, rfl, hD, hok, fun H1 h1 => ?_⟩
    have hS1 := (tks h1).seq hS
    obtain ⟨xs, hX0, hlx, hat⟩ := at_sec hDs
    have hX := (tks h1).seq hX0
    walk_at "go"
    intro p0 hp0
    have hS2 := (tks (sameNew (o := .dK []) hp0)).seq hS1
    have hX2 := (tks (sameNew (o := .dK []) hp0)).seq hX
    walk_at "go"
    refine ⟨⟨xs, hX2⟩, ?_⟩
    refine for_tup (K := K) (a := sq) (xs := xs) (fun i σ G' => ∃ (t2 t3 t4 : Option V) (kvs : List (Key × V)), σ = [some (.ref t), some (.ref p0), t2, t3, t4] ∧ Same H G' ∧ G' p0 = some (.dK kvs) ∧ LenP (l.secs.take i) kvs)
      ⟨_, _, _, [], rfl, fun b o e => sameNew hp0 b o (h1 b o e), upd_same, ⟨fun z => rfl, [], rfl, .nil, Nat.le_refl _, fun z => by simp⟩⟩ (fun i σ G' _ ⟨_, _, _, _, _, hh, _⟩ => (tks hh).seq hX0) (fun i x σ G' hxi hp' => ?_) (fun σ G' hp' => ?_)
    · obtain ⟨t2, t3, t4, kvs, rfl, h5, h6, h7⟩ := hp'
      obtain ⟨s, t2', hs1, hsm, rfl, hs2⟩ := hat i x hxi
      have hs3 : SqT K G' t2' [.int s.1, .int s.2.1, .str s.2.2] := (tks h5).seq hs2
      walk_at "go"
      refine ⟨.inl ⟨kvs, .inl h6⟩, ?_⟩
      walk_at "go"
      refine ⟨_, DGet.k (k := .inr s.2.2) h6, ?_⟩
      have hgv : (valV kvs (.inr s.2.2)).getD (.int 0) = .int ((lenO (l.secs.take i) s.2.2).getD 0) := by
        rw [h7.val]
        cases lenO (l.secs.take i) s.2.2 <;> rfl
      rw [hgv]
      walk_at "go"
      have hil := (List.getElem?_eq_some_iff.mp hs1).1
      obtain ⟨_, ks, hks, _, hkl, _⟩ := id h7
      have hkl2 : kvs.length ≤ 8 := by
        have e := congrArg List.length hks
        rw [List.length_map, List.length_map] at e
        rw [List.length_take] at hkl
        have := hok.sl
        omega
      refine ⟨p0, _, rfl, DPut.k (k := .inr s.2.2) h6 (Nat.lt_of_le_of_lt hkl2 (by decide)), ?_⟩
      refine ⟨_, _, _, _, rfl, fun b o e => ?_, upd_same, ?_⟩
      · rw [upd_ne (ne_of_none e (nH0 hp0 h1))]; exact h5 b o e
      · rw [List.take_add_one, hs1]
        exact h7.step
    · obtain ⟨t2, t3, t4, kvs, rfl, h5, h6, h7⟩ := hp'
      rw [hlx, List.take_length] at h7
      obtain ⟨hval, ks, hks, hnd, hkl, hkm⟩ := id h7
      have := hok.sl
      walk_at "go"
      refine tnil ?_
      try dsimp only
      refine ⟨p0, kvs, ks, rfl, .inl h6, hks, by omega, fun ys pL hperm hsort hpL => ?_⟩
      have hys : ys.Nodup := hperm.nodup_iff.mpr hnd
      have n0L : p0 ≠ pL := fun e => by subst e; rw [h6] at hpL; cases hpL
      have h6L : (upd G' pL (.lst (ys.map V.str))) p0 = some (.dK kvs) := by rw [upd_ne n0L]; exact h6
      have hLL : (upd G' pL (.lst (ys.map V.str))) pL = some (.lst (ys.map V.str)) := upd_same
      walk_at "go"
      refine ⟨⟨_, SqL.of hLL⟩, fun D hD => ?_⟩
      have n0D : p0 ≠ D := fun e => by subst e; rw [h6L] at hD; cases hD
      have nLD : pL ≠ D := fun e => by subst e; rw [hLL] at hD; cases hD
      have hHD : H D = none := by
        refine nH0 hD fun b o e => ?_
        have e1 := h5 b o e
        rw [upd_ne (ne_of_none e1 hpL)]; exact e1
      refine dc_list (K := K) (a := pL) (D := D) (H1 := upd G' pL (.lst (ys.map V.str))) (xs := ys.map V.str) (fun i G => G D = some (.dK ((ys.take i).map (row fun z => (lenO l.secs z).getD 0))) ∧ G pL = some (.lst (ys.map V.str)) ∧ G p0 = some (.dK kvs) ∧ Same H G)
        ⟨upd_same, by rw [upd_ne nLD]; exact hLL, by rw [upd_ne n0D]; exact h6L, fun b o e => ?_⟩ (fun i G ⟨_, h, _⟩ => SqL.of h) (fun i x G hx ⟨g1, g2, g3, g4⟩ => ?_) (fun G ⟨g1, g2, g3, g4⟩ => ?_)
      · have e1 := h5 b o e
        have e2 : (upd G' pL (.lst (ys.map V.str))) b = some o := by rw [upd_ne (ne_of_none e1 hpL)]; exact e1
        rw [upd_ne (ne_of_none e2 hD)]; exact e2
      · rw [List.getElem?_map] at hx
        obtain ⟨z, hz, rfl⟩ := Option.map_eq_some_iff.mp hx
        refine ⟨rfl, ?_⟩
        walk_at "go"
        have hil : i < ys.length := (List.getElem?_eq_some_iff.mp hz).1
        have hlen : ys.length ≤ 8 := by rw [hperm.length_eq]; omega
        have hsome : (lenO l.secs z).isSome = true := (lenO_some z l.secs none).mpr (.inr ((hkm z).mp (hperm.mem_iff.mp (List.mem_of_getElem? hz))))
        have hv : valV kvs (.inr z) = some (.int ((lenO l.secs z).getD 0)) := by
          rw [hval]
          cases e : lenO l.secs z with
          | none => rw [e] at hsome; cases hsome
          | some m => rfl
        have hg := DGet.k (k := .inr z) g3
        rw [hv] at hg
        refine ⟨p0, _, rfl, hg, _, .inr z, rfl, g1, ?_, ?_⟩
        · rw [List.length_map, List.length_take]
          exact Nat.lt_of_le_of_lt (show min i ys.length ≤ 8 by omega) (by decide)
        · refine ⟨by rw [upd_same, put_row hys hz], by rw [upd_ne nLD]; exact g2, by rw [upd_ne n0D]; exact g3, fun b o e => ?_⟩
          rw [upd_ne (ne_of_none e hHD)]; exact g4 b o e
      · rw [List.length_map, List.take_length] at g1
        walk_at "go"
        exact q G D _ g4 hHD g1 ⟨ys, rfl, hys, hsort, fun z => hperm.mem_iff.trans (hkm z)⟩
end
end Pre

set_option Elab.async false
set_option linter.all false
set_option maxRecDepth 100000
set_option maxHeartbeats 4000000
namespace Pre
open PySem PySem.Spec PyProof.Rows L2 Gd
local macro_rules | `(tactic| walk_at "side") => `(tactic| ((try dsimp only); first | exact rfl | decide | omega | exact Nat.le_of_ble_eq_true rfl | exact Or.inl ⟨by decide, by decide⟩ | exact Or.inr ⟨by decide, by decide⟩ | exact ⟨by decide, by decide⟩ | exact ⟨by omega, by omega⟩ | exact fm64 (by decide) (by decide) | exact ⟨by decide, by decide, by decide⟩ | decide +kernel | exact ⟨by decide +kernel, by decide +kernel⟩))
local macro_rules | `(tactic| walk_at "go1") => `(tactic| first | refine ⟨_, rfl, ?_⟩ | refine ⟨_, _, rfl, rfl, ?_⟩ | refine ⟨_, _, rfl, ?_⟩ | refine Or.inl ⟨_, rfl, ?_⟩ | refine Or.inr ⟨_, rfl, ?_⟩ | refine ⟨_, _, _, rfl, ?_⟩ | refine ⟨_, _, _, _, rfl, ?_⟩ | refine ⟨_, _, _, _, rfl, rfl, by first | assumption | exact SqL.of upd_same | exact upd_same, by rfl, ?_⟩ | refine ⟨_, _, _, _, true, rfl, .ty _, .base (.int _), kit_ty (by decide +kernel), ?_⟩ | refine ⟨_, _, _, _, false, rfl, .ty _, .base (.int _), kit_ty (by decide +kernel), ?_⟩ | refine ⟨_, _, _, _, true, rfl, .ty _, .base (.str _), kit_ty (by decide +kernel), ?_⟩ | refine ⟨_, _, _, _, true, rfl, .ty _, tyx_t (by assumption), kit_ty (by decide +kernel), ?_⟩ | refine ⟨_, _, rfl, .inl (by assumption), ?_⟩ | refine ⟨_, _, rfl, .inr (by assumption), ?_⟩ | refine ⟨_, _, rfl, by assumption, by rfl, ?_⟩ | refine And.intro (by walk_at "side") ?_)
local macro_rules | `(tactic| walk_at "go") => `(tactic| repeat walk_at "go1")
section
variable {P : Program} {w : World} {K : PySem.W.Frag} {mg : Str → Option Value} {base : Heap}

theorem iteF' {b : Bool} {A B : Prop} (hb : b = false) (h : B) : if b = true then A else B := by rw [hb]; exact h
theorem iteT' {b : Bool} {A B : Prop} (hb : b = true) (h : A) : if b = true then A else B := by rw [hb]; exact h
theorem layAll_of {ds : List PyData} (h : ∀ d ∈ ds, d.canLay0 = true) : PyData.canLayAll0 ds = true := by
  induction ds with
  | nil => rfl
  | cons d ds ih => simp only [PyData.canLayAll0, Bool.and_eq_true]; exact ⟨h d List.mem_cons_self, ih fun x hx => h x (List.mem_cons_of_mem _ hx)⟩
theorem name_lay {z : Str} (h : NameOk z) : (PyData.str z).canLay0 = true := by
  simp only [PyData.canLay0]
  unfold PyData.strOk
  rw [Array.all_eq_true']
  intro c hc
  have := h.2.2 c (Array.mem_toList_iff.mpr hc)
  exact decide_eq_true (by omega)
theorem sec_shape {s : Sec} (h : NameOk s.2.2) : (secD s).canLay0 = true ∧ (secD s).depth ≤ 1 := by
  refine ⟨?_, Nat.le_of_ble_eq_true rfl⟩
  have := name_lay h
  simp only [secD, PyData.canLay0, PyData.canLayAll0, Bool.and_true, Bool.true_and] at this ⊢
  exact this
theorem ln_shape {l : Ln} (h : TkOk l) : (lnD l).canLay0 = true ∧ (lnD l).depth ≤ 3 := by
  have s1 : ∀ d ∈ l.secs.map secD, d.canLay0 = true ∧ d.depth ≤ 1 := fun d hd => by
    obtain ⟨s, hs, rfl⟩ := List.mem_map.mp hd
    exact sec_shape (h.sc s hs).2.2.2
  have n1 := name_lay h.nm
  have d1 := depthAll_le fun d hd => (s1 d hd).2
  refine ⟨?_, ?_⟩
  · simp only [lnD, PyData.canLay0, PyData.canLayAll0, Bool.and_true, Bool.true_and, Bool.and_eq_true] at n1 ⊢
    exact ⟨n1, layAll_of fun d hd => (s1 d hd).1⟩
  · simp only [lnD, PyData.depth, PyData.depthAll]
    omega
theorem lns_shape {ls : List Ln} (h : ∀ l ∈ ls, TkOk l) : SeqAt.shaped (.tuple (ls.map lnD)) = true := by
  have s1 : ∀ d ∈ ls.map lnD, d.canLay0 = true ∧ d.depth ≤ 3 := fun d hd => by
    obtain ⟨s, hs, rfl⟩ := List.mem_map.mp hd
    exact ln_shape (h s hs)
  have d1 := depthAll_le fun d hd => (s1 d hd).2
  unfold SeqAt.shaped
  rw [Bool.and_eq_true]
  refine ⟨?_, decide_eq_true ?_⟩
  · simp only [PyData.canLay0]
    exact layAll_of fun d hd => (s1 d hd).1
  · simp only [PyData.depth]
    omega

/-! ### the law's own words -/
def spLine (K : PySem.W.Frag) : Sp := fun vs H Q _ => ∃ a : Addr, vs = [.ref a] ∧ Stm a H ∧ ∀ (H' : Hp) (t : Addr) (l : Ln), Nxt a H H' → TkAt K H' t l → Q (.ref t) H'
abbrev st__law_line : Stmt := topS 35
theorem sc__law_line : FnScope ["stream", "found"] ["stream"] (defScope st__law_line) := ⟨rfl, rfl, rfl, by decide +kernel, rfl, by decide +kernel, by decide +kernel⟩
theorem ok_line {f : Addr} {fd : FuncData} (F : Fun K "_law_line" "_law_line" st__law_line f fd) (B : Bts mg) (c__law_some : Cal P w K mg base "_law_some" 4 ["stream", "most"] (spSome K))
    (c__law_pick : Cal P w K mg base "_law_pick" 2 ["stream", "items"] (spPick K)) : FnOk P w K mg base CX0 5 f fd ["stream"] (spLine K) := by
  refine F.ok sc__law_line (fun vs H Q E h => ?_) (fun cdv A outer s H vs Q E hr h => ?_)
  · obtain ⟨a, rfl, _⟩ := h; rfl
  · obtain ⟨a, rfl, hst, q⟩ := h
    refine ⟨_, (pss_cons (ps_set (i := 1) sc__law_line.nd rfl (by first | exact Or.inl rfl | exact Or.inr rfl) (pe_c c__law_some (hr.mono (by decide)) (pa_cons (pv 0) (pa_cons pe_int pa_nil))))
  (pss_one (ps_ret (pe_ifExp (pt_cmpR (ko_neD (K := K) rfl hr.units) (pv 1) (pe_tup pa_nil) (nomark _)) (pe_c c__law_pick (hr.mono (by decide)) (pa_cons (pv 0) (pa_cons (pv 1) pa_nil))) (pe_tup (pa_cons pe_str (pa_cons pe_int (pa_cons pe_int (pa_cons pe_int (pa_cons pe_int (pa_cons (pe_tup (pa_cons (pe_tup (pa_cons pe_int (pa_cons pe_int (pa_cons pe_str pa_nil)))) (pa_cons (pe_tup (pa_cons pe_int (pa_cons pe_int (pa_cons pe_str pa_nil)))) pa_nil))) pa_nil))))))))))), ?_⟩
    walk_at "go"
    refine fun H1 p ls parts locks x1 hD hlen hok => ?_
    walk_at "go"
    intro pe hpe
    have hl : ∀ l ∈ ls, TkOk l := fun l hm => by
      obtain ⟨i, hi⟩ := List.getElem?_of_mem hm
      obtain ⟨_, _, ho⟩ := hok.each i l hi
      exact ho.tk hok.lin
    have x2 := x1.trans (Nxt.add (o := .tup []) x1.st hpe)
    have hD2 := dp_tk (TK.new (o := .tup []) hpe) _ _ (by simpa [tupOnly] using lns_tup ls) hD
    refine ⟨_, _, hD2, .tup (.inl (.inl upd_same)) .nil, lns_shape hl, by decide, _, rfl, ?_⟩
    cases ls with
    | nil =>
      refine iteF' (by rfl) ?_
      walk_at "go"
      intro p1 h1
      have x3 := x2.trans (Nxt.add (o := .tup [.int 0, .int 2, .str "m"]) x2.st h1)
      walk_at "go"
      intro p2 h2
      have x4 := x3.trans (Nxt.add (o := .tup [.int 2, .int 4, .str "m"]) x3.st h2)
      walk_at "go"
      intro p3 h3
      have x5 := x4.trans (Nxt.add (o := .tup [.ref p1, .ref p2]) x4.st h3)
      walk_at "go"
      intro p4 h4
      have x6 := x5.trans (Nxt.add (o := .tup [.str "a", .int 5, .int 9, .int 20, .int 3, .ref p3]) x5.st h4)
      have t2 := TK.new (o := .tup [.int 2, .int 4, .str "m"]) h2
      have t3 := TK.new (o := .tup [.ref p1, .ref p2]) h3
      have t4 := TK.new (o := .tup [.str "a", .int 5, .int 9, .int 20, .int 3, .ref p3]) h4
      have d1 : Dp K _ (.ref p1) (secD (0, 2, "m")) := .tup (.inl (.inl (upd_same (H := upd H1 pe (.tup [])) (a := p1) (o := .tup [.int 0, .int 2, .str "m"])))) (.cons (.int _) (.cons (.int _) (.cons (.str _) .nil)))
      have d2 : Dp K _ (.ref p2) (secD (2, 4, "m")) := .tup (.inl (.inl (upd_same (H := upd (upd H1 pe (.tup [])) p1 (.tup [.int 0, .int 2, .str "m"])) (a := p2) (o := .tup [.int 2, .int 4, .str "m"])))) (.cons (.int _) (.cons (.int _) (.cons (.str _) .nil)))
      have d1' := dp_tk ((t2.trans t3).trans t4) _ _ (by rfl) d1
      have d2' := dp_tk (t3.trans t4) _ _ (by rfl) d2
      refine q _ p4 ⟨"a", 5, 9, 20, 3, [(0, 2, "m"), (2, 4, "m")]⟩ x6 ⟨.tup (.inl (.inl upd_same)) (.cons (.str _) (.cons (.int _) (.cons (.int _) (.cons (.int _) (.cons (.int _) (.cons (.tup (t4.seq (.inl (.inl upd_same))) (.cons d1' (.cons d2' .nil))) .nil)))))), ?_⟩
      exact ⟨by decide +kernel, by decide, by decide, by decide, by decide, by decide, by decide +kernel, by decide +kernel⟩
    | cons l0 lr =>
      refine iteT' (by rfl) ?_
      obtain ⟨p', xs, e, hS, hA⟩ := dp_tup hD2
      cases e
      have hlx : xs.length = lr.length + 1 := by rw [dpAll_len hA]; simp
      have hl3 : lr.length + 1 ≤ 3 := hlen
      walk_at "go"
      refine ⟨a, p, xs, rfl, x2.st, .inr hS, by omega, by omega, fun v x y z hv hx => ?_⟩
      obtain ⟨i, hi⟩ := List.getElem?_of_mem hv
      obtain ⟨d, hd1, hd2⟩ := dpAll_get hA hi
      rw [List.getElem?_map] at hd1
      obtain ⟨l, hl1, rfl⟩ := Option.map_eq_some_iff.mp hd1
      obtain ⟨t, _, rfl, _, _⟩ := dp_tup hd2
      have x3 := x2.trans (Nxt.draw (x := x) (y := y) (z := z) hx)
      refine q _ t l x3 ⟨dp_tk (TK.nxt x2.st (Nxt.draw hx)) _ _ (by simp [lnD, tupOnly, tupAll, secs_tup]) hd2, hl l (List.mem_of_getElem? hl1)⟩

/-- at the numbers below high: the lock that is held, of those of the first sections -/
def lockRow (secs : List Sec) (n : Nat) : List V := (List.range n).map fun (r : Nat) => lockV (lockAt secs (r : Int))
def spLocks (K : PySem.W.Frag) : Sp := fun vs H Q _ => ∃ (t : Addr) (l : Ln), vs = [.ref t] ∧ TkAt K H t l ∧ ∀ (H' : Hp) (p : Addr), Same H H' → H p = none → H' p = some (.lst (lockRow l.secs l.high.toNat)) → Q (.ref p) H'
/-- the row when the next section's numbers up to its k-th are told -/
def rowMid (ss : List Sec) (s : Sec) (k : Nat) (n : Nat) : List V := (List.range n).map fun (r : Nat) => if s.1 < (r : Int) ∧ (r : Int) ≤ s.1 + k then .str s.2.2 else lockV (lockAt ss (r : Int))
theorem rowMid_zero (ss : List Sec) (s : Sec) (n : Nat) : rowMid ss s 0 n = lockRow ss n := by
  refine List.map_congr_left fun r _ => ?_
  rw [if_neg (by omega)]
theorem rowMid_set (ss : List Sec) (s : Sec) (k n : Nat) (h0 : 0 ≤ s.1) : (rowMid ss s k n).set (s.1.toNat + 1 + k) (.str s.2.2) = rowMid ss s (k + 1) n := by
  apply List.ext_getElem?
  intro i
  rw [List.getElem?_set]
  unfold rowMid
  rw [List.getElem?_map, List.getElem?_map, List.length_map, List.length_range]
  by_cases c : i < n
  · rw [List.getElem?_range c]
    by_cases e : s.1.toNat + 1 + k = i
    · rw [if_pos e, if_pos (by omega)]
      simp only [Option.map_some]
      rw [if_pos (by omega)]
    · rw [if_neg e]
      simp only [Option.map_some]
      by_cases g : s.1 < (i : Int) ∧ (i : Int) ≤ s.1 + k
      · rw [if_pos g, if_pos (by omega)]
      · rw [if_neg g, if_neg (by omega)]
  · have : (List.range n)[i]? = none := List.getElem?_eq_none (by simp; omega)
    rw [this]
    by_cases e : s.1.toNat + 1 + k = i
    · rw [if_pos e, if_neg (by omega)]; rfl
    · rw [if_neg e]; rfl
theorem rowMid_full (ss : List Sec) (s : Sec) (n : Nat) (hb : s.1 < s.2.1) (hap : ∀ t ∈ ss, t.2.1 ≤ s.1) : rowMid ss s (s.2.1 - (s.1 + 1)).toNat n = lockRow (ss ++ [s]) n := by
  refine List.map_congr_left fun r _ => ?_
  unfold lockAt
  rw [List.find?_append]
  by_cases g : s.1 < (r : Int) ∧ (r : Int) < s.2.1
  · rw [if_pos (by omega)]
    have e : ss.find? (inS r) = none := by
      rw [List.find?_eq_none]
      intro t ht
      have := hap t ht
      simp [inS]; omega
    have e2 : [s].find? (inS r) = some s := by simp [inS, g]
    rw [e, e2]; rfl
  · rw [if_neg (by omega)]
    have e2 : [s].find? (inS r) = none := by
      rw [List.find?_eq_none]
      intro t ht
      rw [List.mem_singleton] at ht
      subst ht
      simp only [inS, decide_eq_true_eq]
      exact g
    rw [e2, Option.or_none]
theorem lockRow_nil (n : Nat) : lockRow [] n = (List.replicate n [V.non]).flatten := by
  apply List.ext_getElem?
  intro i
  unfold lockRow
  rw [List.getElem?_map]
  have e : (List.replicate n [V.non]).flatten = List.replicate n V.non := by
    induction n with
    | zero => rfl
    | succ n ih => rw [List.replicate_succ, List.flatten_cons, ih, List.replicate_succ]; rfl
  rw [e, List.getElem?_replicate]
  by_cases c : i < n
  · rw [if_pos c, List.getElem?_range c]; rfl
  · rw [if_neg c, List.getElem?_eq_none (by simp; omega)]; rfl
abbrev st__law_locks : Stmt := topS 36
theorem sc__law_locks : FnScope ["line", "found", "begin", "end", "lock", "ran"] ["line"] (defScope st__law_locks) := ⟨rfl, rfl, rfl, by decide +kernel, rfl, by decide +kernel, by decide +kernel⟩
theorem ok_locks {f : Addr} {fd : FuncData} (F : Fun K "_law_locks" "_law_locks" st__law_locks f fd) (B : Bts mg) : FnOk P w K mg base CX0 1 f fd ["line"] (spLocks K) := by
  refine F.ok sc__law_locks (fun vs H Q E h => ?_) (fun cdv A outer s H vs Q E hr h => ?_)
  · obtain ⟨t, l, rfl, _⟩ := h; rfl
  · obtain ⟨t, l, rfl, ⟨hD, hok⟩, q⟩ := h
    obtain ⟨t', sq, e, hS, hDs⟩ := dp_ln hD
    cases e
    obtain ⟨xs, hX0, hlx, hat⟩ := at_sec hDs
    have hh := hok.hi
    refine ⟨_, (pss_cons (ps_set (i := 1) sc__law_locks.nd rfl (by first | exact Or.inl rfl | exact Or.inr rfl) (pe_op op_rep (pe_lst (pa_cons pe_non pa_nil)) (pe_ix (kx_tup (K := K) rfl) (pv 0) pe_int (fun _ _ => rfl))))
  (pss_cons (ps_for PassesOwn.never rfl (pi_tup (pe_ix (kx_tup (K := K) rfl) (pv 0) pe_int (fun _ _ => rfl))) (kg_tup (K := K) rfl (pg_tup (by rfl) (pgs_cons (pg_name (i := 2) sc__law_locks.nd rfl (by first | exact Or.inl rfl | exact Or.inr rfl)) (pgs_cons (pg_name (i := 3) sc__law_locks.nd rfl (by first | exact Or.inl rfl | exact Or.inr rfl)) (pgs_cons (pg_name (i := 4) sc__law_locks.nd rfl (by first | exact Or.inl rfl | exact Or.inr rfl)) pgs_nil))))) (pss_one (ps_for PassesOwn.never rfl (pi_range2 (by rfl) B.range (pa_cons (pe_op op_add (pv 2) pe_int) (pa_cons (pv 3) pa_nil))) (pg_name (i := 5) sc__law_locks.nd rfl (by first | exact Or.inl rfl | exact Or.inr rfl)) (pss_one (ps_asg (pv 4) (pg_sub (pv 1) (pv 5) set_list))))))
  (pss_one (ps_ret (pv 1))))), ?_⟩
    walk_at "go"
    intro p0 h0
    have hS0 := (tks (sameNew (o := .lst [.non]) h0)).seq hS
    walk_at "go"
    refine ⟨p0, l.high, [.non], rfl, rfl, upd_same, by omega, by omega, Nat.le_trans (show [V.non].length * l.high.toNat ≤ 100 by simp; omega) (by decide), fun Pt hPt => ?_⟩
    have hHP : H Pt = none := nH0 hPt (sameNew h0)
    have hS1 : SqT K (upd (upd H p0 (.lst [.non])) Pt (.lst (List.replicate l.high.toNat [V.non]).flatten)) t _ := (tks (sameNew hPt)).seq hS0
    have hX1 : SqT K (upd (upd H p0 (.lst [.non])) Pt (.lst (List.replicate l.high.toNat [V.non]).flatten)) sq xs := (tks (sameNew hPt)).seq ((tks (sameNew h0)).seq hX0)
    walk_at "go"
    refine ⟨⟨xs, hX1⟩, ?_⟩
    refine for_tup (K := K) (a := sq) (xs := xs) (fun i σ G' => ∃ (t2 t3 t4 t5 : Option V), σ = [some (.ref t), some (.ref Pt), t2, t3, t4, t5] ∧ Same H G' ∧ G' Pt = some (.lst (lockRow (l.secs.take i) l.high.toNat)))
      ⟨_, _, _, _, rfl, fun b o e => sameNew hPt b o (sameNew h0 b o e), by rw [upd_same, List.take_zero, lockRow_nil]⟩ (fun i σ G' _ ⟨_, _, _, _, _, hh, _⟩ => (tks hh).seq hX0) (fun i x σ G' hxi hp' => ?_) (fun σ G' hp' => ?_)
    · obtain ⟨t2, t3, t4, t5, rfl, h5, h6⟩ := hp'
      obtain ⟨s, t2', hs1, hsm, rfl, hs2⟩ := hat i x hxi
      have hs3 : SqT K G' t2' [.int s.1, .int s.2.1, .str s.2.2] := (tks h5).seq hs2
      have hb := hok.sc s hsm
      have hil := (List.getElem?_eq_some_iff.mp hs1).1
      have hap : ∀ t ∈ l.secs.take i, t.2.1 ≤ s.1 := fun u hu => by
        obtain ⟨j, hj, ej⟩ := List.mem_iff_getElem.mp hu
        rw [List.length_take] at hj
        rw [List.getElem_take] at ej
        have := List.pairwise_iff_getElem.mp hok.ap j i (by omega) hil (by omega)
        rw [ej, (List.getElem?_eq_some_iff.mp hs1).2] at this
        exact this
      walk_at "go"
      refine for_range (lo := s.1 + 1) (n := (s.2.1 - (s.1 + 1)).toNat) (fun k σ G => ∃ t5 : Option V, σ = [some (.ref t), some (.ref Pt), some (.int s.1), some (.int s.2.1), some (.str s.2.2), t5] ∧ Same H G ∧ G Pt = some (.lst (rowMid (l.secs.take i) s k l.high.toNat)))
        ⟨_, rfl, h5, by rw [rowMid_zero]; exact h6⟩ (fun k σ G hk hp => ?_) (fun σ G hp => ?_)
      · obtain ⟨t5, rfl, h7, h8⟩ := hp
        walk_at "go"
        refine ⟨Pt, _, s.1 + 1 + (k : Int), s.1.toNat + 1 + k, rfl, rfl, h8, ?_, ?_⟩
        · rw [ixN_nat (by omega) (by simp only [rowMid, List.length_map, List.length_range]; omega)]
          congr 1
          omega
        · refine ⟨_, rfl, fun b o e => ?_, by rw [upd_same, rowMid_set _ _ _ _ hb.1]⟩
          rw [upd_ne (ne_of_none e hHP)]; exact h7 b o e
      · obtain ⟨t5, rfl, h7, h8⟩ := hp
        refine ⟨_, _, _, _, rfl, h7, ?_⟩
        rw [h8, rowMid_full _ _ _ hb.2.1 hap, List.take_add_one, hs1]
        rfl
    · obtain ⟨t2, t3, t4, t5, rfl, h5, h6⟩ := hp'
      rw [hlx, List.take_length] at h6
      walk_at "go"
      exact q G' Pt h5 hHP h6

theorem merge_row (f : Str → Int) {ys : List Str} (nd : ys.Nodup) : mergeK [] (ys.map (row f)) = ys.map (row f) := by
  have go : ∀ (n i : Nat), n + i = ys.length → ((ys.drop i).map (row f)).foldl (fun acc kv => putK acc kv.1 kv.2) ((ys.take i).map (row f)) = ys.map (row f) := by
    intro n
    induction n with
    | zero => intro i hi; rw [List.drop_eq_nil_of_le (by omega), List.take_of_length_le (by omega)]; rfl
    | succ n ih =>
      intro i hi
      have hlt : i < ys.length := by omega
      rw [List.drop_eq_getElem_cons hlt, List.map_cons, List.foldl_cons]
      have := put_row (f := f) nd (List.getElem?_eq_getElem hlt)
      rw [show (row f ys[i]).1 = .inr ys[i] from rfl, show (row f ys[i]).2 = .int (f ys[i]) from rfl, this]
      exact ih (i + 1) (by omega)
  exact go ys.length 0 rfl
theorem gath_strs (ks : List Str) : ∃ zs : List Str, gath [] (ks.map Sum.inr) = zs.map Sum.inr ∧ zs.Nodup ∧ (∀ z, z ∈ zs ↔ z ∈ ks) ∧ zs.length ≤ ks.length := by
  have all : ∀ (l : List Key), (∀ k ∈ l, ∃ z, k = .inr z) → ∃ zs : List Str, l = zs.map Sum.inr := fun l => by
    induction l with
    | nil => intro _; exact ⟨[], rfl⟩
    | cons k r ih =>
      intro h
      obtain ⟨z, rfl⟩ := h k List.mem_cons_self
      obtain ⟨zs, rfl⟩ := ih fun k hk => h k (List.mem_cons_of_mem _ hk)
      exact ⟨z :: zs, rfl⟩
  obtain ⟨zs, e⟩ := all (gath [] (ks.map Sum.inr)) fun k hk => by
    rcases gath_mem.mp hk with h | h
    · cases h
    · obtain ⟨z, _, rfl⟩ := List.mem_map.mp h; exact ⟨z, rfl⟩
  have nd := gath_nd (ks.map Sum.inr) (D := []) .nil
  have ln := gath_len (ks.map Sum.inr) []
  rw [e] at nd ln
  rw [List.length_map, List.length_map] at ln
  refine ⟨zs, e, List.Pairwise.of_map Sum.inr (fun _ _ h c => h (congrArg _ c)) nd, fun z => ?_, by simpa using ln⟩
  have hm := gath_mem (D := []) (ks := ks.map Sum.inr) (x := .inr z)
  rw [e] at hm
  have i1 : (Sum.inr z : Key) ∈ zs.map Sum.inr ↔ z ∈ zs := ⟨fun h => by obtain ⟨y, hy, ey⟩ := List.mem_map.mp h; exact Sum.inr.inj ey ▸ hy, fun h => List.mem_map_of_mem h⟩
  have i2 : (Sum.inr z : Key) ∈ ks.map Sum.inr ↔ z ∈ ks := ⟨fun h => by obtain ⟨y, hy, ey⟩ := List.mem_map.mp h; exact Sum.inr.inj ey ▸ hy, fun h => List.mem_map_of_mem h⟩
  rw [i1, i2] at hm
  simpa using hm
def spLengths (K : PySem.W.Frag) : Sp := fun vs H Q _ => ∃ (t : Addr) (l : Ln), vs = [.ref t] ∧ TkAt K H t l ∧ ∀ (H' : Hp) (p : Addr) (kvs : List (Key × V)), Same H H' → H p = none → H' p = some (.dK kvs) → LenD l.secs kvs → Q (.ref p) H'
abbrev st__law_lengths : Stmt := topS 37
theorem sc__law_lengths : FnScope ["line", "found", "lock", "section", "begin", "end", "other"] ["line"] (defScope st__law_lengths) := ⟨rfl, rfl, rfl, by decide +kernel, rfl, by decide +kernel, by decide +kernel⟩
theorem ok_lengths {f : Addr} {fd : FuncData} (F : Fun K "_law_lengths" "_law_lengths" st__law_lengths f fd) (B : Bts mg) : FnOk P w K mg base CX0 1 f fd ["line"] (spLengths K) := by
  refine F.ok sc__law_lengths (fun vs H Q E h => ?_) (fun cdv A outer s H vs Q E hr h => ?_)
  · obtain ⟨t, l, rfl, _⟩ := h; rfl
  · obtain ⟨t, l, rfl, ⟨hD, hok⟩, q⟩ := h
    obtain ⟨t', sq, e, hS, hDs⟩ := dp_ln hD
    cases e
    obtain ⟨xs, hX0, hlx, hat⟩ := at_sec hDs
    refine ⟨_, (pss_cons (ps_set (i := 1) sc__law_lengths.nd rfl (by first | exact Or.inl rfl | exact Or.inr rfl) (pe_lst pa_nil))
  (pss_cons (ps_for PassesOwn.never rfl (pi_list (pe_callB (cr_sortM rfl) (by rfl) B.sorted (by decide +kernel) (pa_cons (pe_callTy (cr_setM rfl) (by rfl) B.set (by decide +kernel) (pa_cons (pe_lc (own := [("section", 3)]) (g := gName 3) (tt := tYes) rfl sc__law_lengths.nd  (pi_tup (pe_ix (kx_tup (K := K) rfl) (pv 0) pe_int (fun _ _ => rfl))) (blkOk_by (own := [("section", 3)]) (N := ["line", "found", "lock", "section", "begin", "end", "other"]) (sc := defScope st__law_lengths) (by decide +kernel)) (fun _ _ _ _ _ => pg_name (i := 3) sc__law_lengths.nd rfl (by first | exact Or.inl rfl | exact Or.inr rfl)) (fun _ _ _ _ _ => pts_nil) (fun _ _ _ _ _ => (pe_ix (kx_tup (K := K) rfl) (pv 3) pe_int (fun _ _ => rfl)))) pa_nil)) pa_nil))) (pg_name (i := 2) sc__law_lengths.nd rfl (by first | exact Or.inl rfl | exact Or.inr rfl)) (pss_one (ps_expr (kb_m (K := K) rfl (pe_bm PySem.F.plainAttrs_list PySem.F.slot_list_append PySem.F.type_list_append mt_append (pv 1) (pa_cons (pe_tup (pa_cons (pv 2) (pa_cons (pe_callB (k_max (K := K) rfl rfl) (by rfl) B.max (by decide +kernel) (pa_cons (pe_lc (own := [("begin", 4), ("end", 5), ("other", 6)]) rfl sc__law_lengths.nd  (pi_tup (pe_ix (kx_tup (K := K) rfl) (pv 0) pe_int (fun _ _ => rfl))) (blkOk_by (own := [("begin", 4), ("end", 5), ("other", 6)]) (N := ["line", "found", "lock", "section", "begin", "end", "other"]) (sc := defScope st__law_lengths) (by decide +kernel)) (fun _ _ _ _ _ => kg_tup (K := K) rfl (pg_tup (by rfl) (pgs_cons (pg_name (i := 4) sc__law_lengths.nd rfl (by first | exact Or.inl rfl | exact Or.inr rfl)) (pgs_cons (pg_name (i := 5) sc__law_lengths.nd rfl (by first | exact Or.inl rfl | exact Or.inr rfl)) (pgs_cons (pg_name (i := 6) sc__law_lengths.nd rfl (by first | exact Or.inl rfl | exact Or.inr rfl)) pgs_nil))))) (fun _ _ _ _ _ => pts_one (pt_cmpR op_eq (pv 6) (pv 2) (nomark _))) (fun _ _ _ _ _ => (pe_op op_sub (pv 5) (pv 4)))) pa_nil)) pa_nil))) pa_nil))))))
  (pss_one (ps_ret (pe_callTy (call_dictP rfl) (by rfl) B.dict (by decide +kernel) (pa_cons (pv 1) pa_nil)))))), ?_⟩
    walk_at "go"
    intro p0 h0
    have hX1 : SqT K (upd H p0 (.lst [])) sq xs := (tks (sameNew h0)).seq hX0
    have hS1 := (tks (sameNew (o := .lst []) h0)).seq hS
    walk_at "go"
    refine ⟨⟨xs, hX1⟩, fun D hD => ?_⟩
    have nPD : p0 ≠ D := fun e => by subst e; rw [upd_same] at hD; cases hD
    have hHD : H D = none := nH0 hD (sameNew h0)
    refine lc_tup (K := K) (a := sq) (xs := xs) (fun i G => G D = some (.lst ((l.secs.take i).map fun s => .str s.2.2)) ∧ G p0 = some (.lst []) ∧ Same H G) ⟨upd_same, by rw [upd_ne nPD, upd_same], fun b o e => sameNew hD b o (sameNew h0 b o e)⟩
      (fun i G _ ⟨_, _, hh⟩ => (tks hh).seq hX0) (fun i x G hxi hp' => ?_) (fun G hp' => ?_)
    · obtain ⟨h1, h2, h3⟩ := hp'
      obtain ⟨s, t2', hs1, hsm, rfl, hs2⟩ := hat i x hxi
      have hs3 : SqT K G t2' [.int s.1, .int s.2.1, .str s.2.2] := (tks h3).seq hs2
      have := hok.sl
      refine ⟨rfl, ?_⟩
      walk_at "go"
      refine ⟨_, h1, Nat.lt_of_le_of_lt (show _ ≤ 8 by rw [List.length_map, List.length_take]; omega) (by decide), by rw [upd_same, List.take_add_one, hs1, List.map_append]; rfl, by rw [upd_ne nPD]; exact h2, fun b o e => ?_⟩
      rw [upd_ne (ne_of_none e hHD)]; exact h3 b o e
    · obtain ⟨h1, h2, h3⟩ := hp'
      rw [hlx, List.take_length, show (l.secs.map fun s => V.str s.2.2) = (l.secs.map fun s => (Sum.inr s.2.2 : Key)).map kV by rw [List.map_map]; rfl] at h1
      walk_at "go"
      refine tnil ?_
      try dsimp -proj only
      have hsl := hok.sl
      refine ⟨D, _, rfl, SqL.of h1, Nat.lt_of_le_of_lt (show _ ≤ 9 by rw [List.length_map]; omega) (by decide), fun pS hpS => ?_⟩
      have n0S : p0 ≠ pS := fun e => by subst e; rw [h2] at hpS; cases hpS
      obtain ⟨zs, hzs, hzn, hzm, hzl⟩ := gath_strs (l.secs.map fun s => s.2.2)
      rw [List.map_map, show (Sum.inr ∘ fun (s : Sec) => s.2.2 : Sec → Key) = fun s => Sum.inr s.2.2 from rfl, List.length_map] at *
      walk_at "go"
      refine tnil ?_
      try dsimp -proj only
      refine ⟨pS, zs, rfl, by rw [upd_same, hzs], by omega, fun ys pL hperm hsort hpL => ?_⟩
      have hys : ys.Nodup := hperm.nodup_iff.mpr hzn
      have n0L : p0 ≠ pL := fun e => by subst e; rw [upd_ne n0S, h2] at hpL; cases hpL
      have hLL : (upd (upd G pS (SetM P w pS (gath [] (l.secs.map fun s => (Sum.inr s.2.2 : Key))))) pL (.lst (ys.map V.str))) pL = some (.lst (ys.map V.str)) := upd_same
      walk_at "go"
      refine ⟨⟨_, SqL.of hLL⟩, ?_⟩
      have hHL : H pL = none := by
        refine nH0 hpL fun b o e => ?_
        have e1 := h3 b o e
        rw [upd_ne (ne_of_none e1 hpS)]; exact e1
      refine for_list (K := K) (a := pL) (xs := ys.map V.str) (fun i σ G' => ∃ (t2 t3 t4 t5 t6 : Option V) (ps : List Addr), σ = [some (.ref t), some (.ref p0), t2, t3, t4, t5, t6] ∧ Same H G' ∧ G' p0 = some (.lst (ps.map V.ref)) ∧ G' pL = some (.lst (ys.map V.str)) ∧
          Paired (fun (p : Addr) (kv : Key × V) => SqT K G' p [kV kv.1, kv.2]) ps ((ys.take i).map (row fun z => (lenO l.secs z).getD 0)))
        ⟨_, _, _, _, _, [], rfl, fun b o e => ?_, by rw [upd_ne n0L, upd_ne n0S]; exact h2, hLL, .nil⟩ (fun i σ G' _ ⟨_, _, _, _, _, _, _, _, _, hh, _⟩ => SqL.of hh) (fun i x σ G' hxi hp' => ?_) (fun σ G' hp' => ?_)
      · have e1 := h3 b o e
        rw [upd_ne (ne_of_none e hHL)]
        rw [upd_ne (ne_of_none e1 hpS)]; exact e1
      · obtain ⟨t2, t3, t4, t5, t6, ps, rfl, g1, g2, g3, g4⟩ := hp'
        rw [List.getElem?_map] at hxi
        obtain ⟨z, hz, rfl⟩ := Option.map_eq_some_iff.mp hxi
        have hSG := (tks g1).seq hS
        have hXG := (tks g1).seq hX0
        have hzs : z ∈ l.secs.map fun s => s.2.2 := (hzm z).mp (hperm.mem_iff.mp (List.mem_of_getElem? hz))
        walk_at "go"
        refine ⟨.inl ⟨rfl, _, SqL.of g2⟩, ?_⟩
        walk_at "go"
        refine ⟨⟨xs, hXG⟩, fun D2 hD2 => ?_⟩
        have hHD2 : H D2 = none := nH0 hD2 g1
        refine lc_tup (K := K) (a := sq) (xs := xs) (fun i G => G D2 = some (.lst ((((l.secs.take i).filter fun s => decide (s.2.2 = z)).map fun s => s.2.1 - s.1).map V.int)) ∧ Same G' G) ⟨upd_same, sameNew hD2⟩
          (fun i G _ ⟨_, hh⟩ => (tks hh).seq hXG) (fun i x G2 hxi hp' => ?_) (fun G2 hp' => ?_)
        · obtain ⟨k1, k2⟩ := hp'
          obtain ⟨s, t2', hs1, hsm, rfl, hs2⟩ := hat i x hxi
          have hs3 : SqT K G2 t2' [.int s.1, .int s.2.1, .str s.2.2] := (tks k2).seq ((tks g1).seq hs2)
          walk_at "go"
          refine ite2 (fun c => ?_) (fun c => ?_)
          · have c' : s.2.2 = z := V.str.inj (of_decide_eq_true c)
            have ef : ((l.secs.take (i + 1)).filter fun s => decide (s.2.2 = z)) = ((l.secs.take i).filter fun s => decide (s.2.2 = z)) ++ [s] := by
              rw [List.take_add_one, hs1, List.filter_append]; simp [c']
            walk_at "go"
            refine ⟨_, k1, Nat.lt_of_le_of_lt (show _ ≤ 8 from ?_) (by decide), ?_, fun b o e => ?_⟩
            · rw [List.length_map, List.length_map]
              refine Nat.le_trans (List.length_filter_le _ _) ?_
              rw [List.length_take]; omega
            · rw [upd_same, ef, List.map_append, List.map_append]; rfl
            · rw [upd_ne (ne_of_none e hD2)]; exact k2 b o e
          · have c' : ¬ s.2.2 = z := fun h => c (decide_eq_true (congrArg V.str h))
            have ef : ((l.secs.take (i + 1)).filter fun s => decide (s.2.2 = z)) = ((l.secs.take i).filter fun s => decide (s.2.2 = z)) := by
              rw [List.take_add_one, hs1, List.filter_append]; simp [c']
            walk_at "go"
            rw [ef]
            exact ⟨k1, k2⟩
        · obtain ⟨k1, k2⟩ := hp'
          rw [hlx, List.take_length] at k1
          obtain ⟨s0, hs0, es0⟩ := List.mem_map.mp hzs
          have hls : lenO l.secs z = some ((lenO l.secs z).getD 0) := by
            have := (lenO_some z l.secs none).mpr (.inr ⟨s0, hs0, es0⟩)
            change (lenO l.secs z).isSome = true at this
            cases e : lenO l.secs z with
            | none => rw [e] at this; cases this
            | some m => rfl
          obtain ⟨⟨s1, hs1, es1, em⟩, hmax⟩ := lenO_max z l.secs (fun s hs => (hok.sc s hs).2.1) _ hls
          refine tnil ?_
          try dsimp -proj only
          refine ⟨D2, _, rfl, SqL.of k1, ?_, fun M hM hle => ?_⟩
          · rw [List.length_map]
            exact List.length_pos_of_mem (List.mem_filter.mpr ⟨hs0, decide_eq_true es0⟩)
          have eM : M = (lenO l.secs z).getD 0 := by
            obtain ⟨s2, hs2, e2⟩ := List.mem_map.mp hM
            obtain ⟨hs2, ez⟩ := List.mem_filter.mp hs2
            have a1 := hmax s2 hs2 (of_decide_eq_true ez)
            have a2 := hle _ (List.mem_map.mpr ⟨s1, List.mem_filter.mpr ⟨hs1, decide_eq_true es1⟩, rfl⟩)
            omega
          rw [eM]
          walk_at "go"
          intro pT hpT
          have k3 : Same G' (upd G2 pT (.tup [.str z, .int ((lenO l.secs z).getD 0)])) := fun b o e => sameNew hpT b o (k2 b o e)
          refine tnil ?_
          have hil : i < ys.length := (List.getElem?_eq_some_iff.mp hz).1
          have hyl : ys.length ≤ 8 := by rw [hperm.length_eq]; omega
          have hpl : ps.length ≤ 8 := by
            have := Paired.length g4
            rw [List.length_map, List.length_take] at this
            omega
          refine ⟨p0, _, _, rfl, rfl, k3 _ _ g2, Nat.lt_of_le_of_lt (show (ps.map V.ref).length ≤ 8 by rw [List.length_map]; exact hpl) (by decide), ?_⟩
          have k4 : TK G' (upd (upd G2 pT (.tup [.str z, .int ((lenO l.secs z).getD 0)])) p0 (.lst (ps.map V.ref ++ [.ref pT]))) := (tks k3).trans (TK.lst (k3 _ _ g2))
          refine ⟨_, _, _, _, _, ps ++ [pT], rfl, fun b o e => ?_, ?_, ?_, ?_⟩
          · rw [upd_ne (ne_of_none e h0)]; exact k3 b o (g1 b o e)
          · rw [upd_same, List.map_append]; rfl
          · rw [upd_ne n0L.symm]; exact k3 _ _ g3
          · rw [List.take_add_one, hz, List.map_append]
            refine Paired.snoc (Paired.mapP g4 fun p kv h => k4.seq h) (TK.seq (TK.lst (k3 _ _ g2)) (.inl (.inl upd_same)))
      · obtain ⟨t2, t3, t4, t5, t6, ps, rfl, g1, g2, g3, g4⟩ := hp'
        rw [List.length_map, List.take_length] at g4
        walk_at "go"
        refine tnil ?_
        try dsimp -proj only
        refine ⟨p0, ps, _, rfl, SqL.of g2, g4, fun p hp => ?_⟩
        rw [merge_row _ hys]
        have hHp : H p = none := nH0 hp g1
        exact q _ p _ (fun b o e => sameNew hp b o (g1 b o e)) hHp upd_same ⟨ys, rfl, hys, hsort, fun z => (hperm.mem_iff.trans (hzm z)).trans ⟨fun h => by obtain ⟨s, h1, h2⟩ := List.mem_map.mp h; exact ⟨s, h1, h2⟩, fun ⟨s, h1, h2⟩ => List.mem_map.mpr ⟨s, h1, h2⟩⟩⟩
end
end Pre

set_option Elab.async false
set_option linter.all false
set_option maxRecDepth 100000
set_option maxHeartbeats 4000000
namespace Pre
open PySem PySem.Spec PyProof.Rows L2 Gd
local macro_rules | `(tactic| walk_at "side") => `(tactic| ((try dsimp only); first | exact rfl | decide | omega | exact Nat.le_of_ble_eq_true rfl | exact Or.inl ⟨by decide, by decide⟩ | exact Or.inr ⟨by decide, by decide⟩ | exact ⟨by decide, by decide⟩ | exact ⟨by omega, by omega⟩ | exact fm64 (by decide) (by decide) | exact ⟨by decide, by decide, by decide⟩ | decide +kernel | exact ⟨by decide +kernel, by decide +kernel⟩))
local macro_rules | `(tactic| walk_at "go1") => `(tactic| first | refine ⟨_, rfl, ?_⟩ | refine ⟨_, _, rfl, rfl, ?_⟩ | refine ⟨_, _, rfl, ?_⟩ | refine Or.inl ⟨_, rfl, ?_⟩ | refine Or.inr ⟨_, rfl, ?_⟩ | refine ⟨_, _, _, rfl, ?_⟩ | refine ⟨_, _, _, _, rfl, ?_⟩ | refine ⟨_, _, _, _, rfl, rfl, by first | assumption | exact SqL.of upd_same | exact upd_same, by rfl, ?_⟩ | refine ⟨_, _, _, _, true, rfl, .ty _, .base (.int _), kit_ty (by decide +kernel), ?_⟩ | refine ⟨_, _, _, _, false, rfl, .ty _, .base (.int _), kit_ty (by decide +kernel), ?_⟩ | refine ⟨_, _, _, _, true, rfl, .ty _, .base (.str _), kit_ty (by decide +kernel), ?_⟩ | refine ⟨_, _, _, _, true, rfl, .ty _, tyx_t (by assumption), kit_ty (by decide +kernel), ?_⟩ | refine ⟨_, _, rfl, .inl (by assumption), ?_⟩ | refine ⟨_, _, rfl, .inr (by assumption), ?_⟩ | refine ⟨_, _, rfl, by assumption, by rfl, ?_⟩ | refine And.intro (by walk_at "side") ?_)
local macro_rules | `(tactic| walk_at "go") => `(tactic| repeat walk_at "go1")
section
variable {P : Program} {w : World} {K : PySem.W.Frag} {mg : Str → Option Value} {base : Heap}

/-! ### a task made of its parts -/
def secK (s : Sec) : List Key := [.inl s.1, .inl s.2.1, .inr s.2.2]
/-- the sections in their order -/
def SecSrt (ss : List Sec) : Prop := SrtO.Srtd (fun a b => lLt (secK a) (secK b)) ss
structure Made (l : Ln) (secs : List Sec) : Prop where
  pm : l.secs.Perm secs
  srt : SecSrt l.secs
  ok : TkOk l
theorem dpAll_map {H : Hp} {g : V → Sec} : ∀ {ys : List V}, (∀ y ∈ ys, Dp K H y (secD (g y))) → DpAll K H ys ((ys.map g).map secD)
  | [], _ => .nil
  | y :: r, h => .cons (h y List.mem_cons_self) (dpAll_map fun z hz => h z (List.mem_cons_of_mem _ hz))
def spBuilt (K : PySem.W.Frag) : Sp := fun vs H Q _ => ∃ (nm : Str) (hi gap due room : Int) (dv : V) (q : Addr) (secs : List Sec) (xs : List V), vs = [.str nm, .int hi, .int gap, .ref q, dv, .int room] ∧ SqT K H q xs ∧ DpAll K H xs (secs.map secD) ∧ xs.Nodup ∧ (∀ s ∈ secs, NameOk s.2.2) ∧ secs.length ≤ 8 ∧
  ((dv = .non ∧ due = gap) ∨ dv = .int due) ∧ (∀ ss : List Sec, ss.Perm secs → SecSrt ss → TkOk ⟨nm, hi, gap, due, room, ss⟩) ∧
  ∀ (H' : Hp) (t : Addr) (ss : List Sec), Same H H' → ss.Perm secs → SecSrt ss → TkAt K H' t ⟨nm, hi, gap, due, room, ss⟩ → Q (.ref t) H'
abbrev st__built_task : Stmt := topS 23
theorem sc__built_task : FnScope ["name", "longest", "gap", "sections", "deadline", "room", "task", "section"] ["name", "longest", "gap", "sections", "deadline", "room"] (defScope st__built_task) := ⟨rfl, rfl, rfl, by decide +kernel, rfl, by decide +kernel, by decide +kernel⟩
theorem ok_built {f : Addr} {fd : FuncData} (F : Fun K "_built_task" "_built_task" st__built_task f fd) (B : Bts mg) (c__is_section : Cal P w K mg base "_is_section" 2 ["value"] (spSection K)) (c_check_task : Cal P w K mg base "check_task" 5 ["task"] (spCkTask K)) :
    FnOk P w K mg base CX0 6 f fd ["name", "longest", "gap", "sections", "deadline", "room"] (spBuilt K) := by
  refine F.ok sc__built_task (fun vs H Q E h => ?_) (fun cdv A outer s H vs Q E hr h => ?_)
  · obtain ⟨_, _, _, _, _, _, _, _, _, rfl, _⟩ := h; rfl
  · obtain ⟨nm, hi, gap, due, room, dv, q0, secs, xs, rfl, hX0, hA, hnd, hN, h8, hdv, hok, q⟩ := h
    have hlx : xs.length = secs.length := by rw [dpAll_len hA, List.length_map]
    have hat : ∀ (i : Nat) (x : V), xs[i]? = some x → ∃ s t2, secs[i]? = some s ∧ s ∈ secs ∧ x = .ref t2 ∧ SqT K H t2 [.int s.1, .int s.2.1, .str s.2.2] := fun i x hx => by
      obtain ⟨d, h1, h2⟩ := dpAll_get hA hx
      rw [List.getElem?_map] at h1
      obtain ⟨s, hs1, rfl⟩ := Option.map_eq_some_iff.mp h1
      obtain ⟨t2, e2, h3⟩ := dp_sec h2
      exact ⟨s, t2, hs1, List.mem_of_getElem? hs1, e2, h3⟩
    refine ⟨_, (pss_cons (ps_if (PW.pt (pw_or (pt_not (pt_val (pe_callB (k_isi (K := K) rfl) (by rfl) B.isinstance (by decide +kernel) (pa_cons (pv 3) (pa_cons (pe_bltn (v := .ty "tuple") (by rfl) B.tuple (by decide +kernel) rfl) pa_nil))))) (pw_or1 (pt_not (pt_val (pe_callB (k_all (K := K) rfl rfl) (by rfl) B.all (by decide +kernel) (pa_cons (pe_lc (own := [("section", 7)]) (g := gName 7) (tt := tYes) rfl sc__built_task.nd  (pi_tup (pv 3)) (blkOk_by (own := [("section", 7)]) (N := ["name", "longest", "gap", "sections", "deadline", "room", "task", "section"]) (sc := defScope st__built_task) (by decide +kernel)) (fun _ _ _ _ _ => pg_name (i := 7) sc__built_task.nd rfl (by first | exact Or.inl rfl | exact Or.inr rfl)) (fun _ _ _ _ _ => pts_nil) (fun _ _ _ _ _ => (pe_c c__is_section (hr.mono (by decide)) (pa_cons (pv 7) pa_nil)))) pa_nil))))))) (pss_one ps_never) pss_nil)
  (pss_cons (ps_if (pt_cmpR op_isN (pv 4) pe_non (nomark _)) (pss_one (ps_set (i := 4) sc__built_task.nd rfl (by first | exact Or.inl rfl | exact Or.inr rfl) (pv 2))) pss_nil)
  (pss_cons (ps_set (i := 6) sc__built_task.nd rfl (by first | exact Or.inl rfl | exact Or.inr rfl) (pe_tup (pa_cons (pv 0) (pa_cons (pv 1) (pa_cons (pv 2) (pa_cons (pv 4) (pa_cons (pv 5) (pa_cons (pe_callTy (k_tuple (K := K) rfl) (by rfl) B.tuple (by decide +kernel) (pa_cons (pe_callB (k_sortTup (K := K) rfl) (by rfl) B.sorted (by decide +kernel) (pa_cons (pv 3) pa_nil)) pa_nil)) pa_nil))))))))
  (pss_cons (ps_expr (pe_c c_check_task (hr.mono (by decide)) (pa_cons (pv 6) pa_nil)))
  (pss_one (ps_ret (pv 6))))))), ?_⟩
    walk_at "go"
    refine ⟨⟨xs, hX0⟩, fun D hD' => ?_⟩
    refine lc_tup (K := K) (a := q0) (xs := xs) (fun i G => ∃ bs : List Bool, G D = some (.lst (bs.map V.bl)) ∧ bs.all id = true ∧ bs.length = i ∧ Same H G) ⟨[], upd_same, rfl, rfl, sameNew hD'⟩ (fun i G _ ⟨_, _, _, _, hh⟩ => (tks hh).seq hX0) (fun i x G hxi hp' => ?_) (fun G hp' => ?_)
    · obtain ⟨bs, h1, h2, h3, h4⟩ := hp'
      obtain ⟨s, t2, hs1, hsm, rfl, hs2⟩ := hat i x hxi
      have hil := (List.getElem?_eq_some_iff.mp hs1).1
      refine ⟨rfl, ?_⟩
      walk_at "go"
      refine ⟨_, _, _, _, rfl, (tks h4).seq hs2, hN s hsm, fun H' hH' => ?_⟩
      refine ⟨_, hH' _ _ h1, Nat.lt_of_le_of_lt (show (bs.map V.bl).length ≤ 8 by rw [List.length_map]; omega) (by decide), bs ++ [true], by rw [upd_same, List.map_append]; rfl, by rw [List.all_append, h2]; rfl, by rw [List.length_append, h3]; rfl, fun b o e => ?_⟩
      rw [upd_ne (ne_of_none e hD')]
      exact hH' b o (h4 b o e)
    · obtain ⟨bs, h1, h2, h3, h4⟩ := hp'
      walk_at "go"
      refine ⟨D, bs, rfl, SqL.of h1, true, by rw [h2], ?_⟩
      refine iteF ?_
      walk_at "go"
      have hXG := (tks h4).seq hX0
      -- the section that a reference stands for
      have hidx : ∀ (i : Nat) (x : V), xs[i]? = some x → xs.idxOf x = i := fun i x hx => by
        obtain ⟨hi, he⟩ := List.getElem?_eq_some_iff.mp hx
        rw [← he]
        exact hnd.idxOf_getElem i hi
      let g : V → Sec := fun x => secs.getD (xs.idxOf x) (0, 0, "")
      have hg : ∀ (i : Nat) (x : V), xs[i]? = some x → secs[i]? = some (g x) ∧ Dp K H x (secD (g x)) ∧ ∃ t2, x = .ref t2 ∧ SqT K H t2 [.int (g x).1, .int (g x).2.1, .str (g x).2.2] := fun i x hx => by
        obtain ⟨s, t2, a1, _, a3, a4⟩ := hat i x hx
        obtain ⟨d, b1, b2⟩ := dpAll_get hA hx
        rw [List.getElem?_map, a1] at b1
        cases b1
        have e : g x = s := by
          show secs.getD (xs.idxOf x) (0, 0, "") = s
          rw [hidx i x hx, List.getD_eq_getElem?_getD, a1]; rfl
        rw [e]
        exact ⟨a1, b2, t2, a3, a4⟩
      have hgm : xs.map g = secs := by
        apply List.ext_getElem?
        intro i
        rw [List.getElem?_map]
        cases e : xs[i]? with
        | none =>
          rw [List.getElem?_eq_none_iff] at e
          exact (List.getElem?_eq_none_iff.mpr (by omega)).symm
        | some x => exact (hg i x e).1.symm
      rcases hdv with ⟨rfl, rfl⟩ | rfl
      all_goals refine ⟨rfl, _, rfl, ?_⟩
      all_goals first | refine iteT' (by rfl) ?_ | refine iteF' (by rfl) ?_
      all_goals
        walk_at "go"
        refine tnil ?_
        try dsimp -proj only
        refine ⟨q0, xs, fun x => secK (g x), [true, true, false], rfl, .inr hXG, rfl, fun x hx => ?_, fun ys pL hsr hpm hpL => ?_⟩
        · obtain ⟨i, hi⟩ := List.getElem?_of_mem hx
          obtain ⟨_, _, t2, e2, h2⟩ := hg i x hi
          exact ⟨t2, e2, (tks h4).seq h2, rfl⟩
        have hLL : (upd G pL (.lst ys)) pL = some (.lst ys) := upd_same
        have k5 : Same H (upd G pL (.lst ys)) := fun b o e => sameNew hpL b o (h4 b o e)
        walk_at "go"
        refine tnil ?_
        try dsimp -proj only
        refine ⟨pL, ys, rfl, .inl ⟨SqL.of hLL, fun pT hpT => ?_⟩⟩
        have k6 : Same H (upd (upd G pL (.lst ys)) pT (.tup ys)) := fun b o e => sameNew hpT b o (k5 b o e)
        have dY : DpAll K H ys ((ys.map g).map secD) := dpAll_map fun y hy => by
          obtain ⟨i, hi⟩ := List.getElem?_of_mem (hpm.mem_iff.mp hy)
          exact (hg i y hi).2.1
        have pm : (ys.map g).Perm secs := (hpm.map g).trans (by rw [hgm])
        have srt : SecSrt (ys.map g) := SrtO.srtd_map hsr
        have dY2 := dpAll_tk (tks k6) _ _ (secs_tup (ys.map g)) dY
        have dT : Dp K (upd (upd G pL (.lst ys)) pT (.tup ys)) (.ref pT) (.tuple ((ys.map g).map secD)) := .tup (.inl (.inl upd_same)) dY2
        walk_at "go"
        intro pk hpk
        have ht := hok _ pm srt
        have mk : ∀ (a b : Int) (hh : TkOk ⟨nm, hi, a, b, room, ys.map g⟩), TkAt K (upd (upd (upd G pL (.lst ys)) pT (.tup ys)) pk (.tup [.str nm, .int hi, .int a, .int b, .int room, .ref pT])) pk ⟨nm, hi, a, b, room, ys.map g⟩ := fun a b hh =>
          ⟨.tup (.inl (.inl upd_same)) (.cons (.str _) (.cons (.int _) (.cons (.int _) (.cons (.int _) (.cons (.int _) (.cons (dp_tk (TK.new hpk) _ _ (by simpa [tupOnly] using secs_tup (ys.map g)) dT) .nil)))))), hh⟩
        walk_at "go"
        refine ⟨pk, _, rfl, (mk _ _ ht).dp, ht, fun H' hH' => ?_⟩
        walk_at "go"
        exact q H' pk _ (fun b o e => hH' b o (sameNew hpk b o (k6 b o e))) pm srt ((mk _ _ ht).same (tks hH'))

/-! ### make_task(name, longest, gap, *sections) -/
def spMakeB (K : PySem.W.Frag) : Sp := fun vs H Q E => ∃ a b c d e q, vs = [a, b, c, d, e, q] ∧ spBuilt K [a, b, c, q, d, e] H Q E
def spMake (K : PySem.W.Frag) : Sp := fun vs H Q _ => ∃ (nm : Str) (hi gap : Int) (secs : List Sec) (xs : List V), vs = [.str nm, .int hi, .int gap] ++ xs ∧ DpAll K H xs (secs.map secD) ∧ xs.Nodup ∧ (∀ s ∈ secs, NameOk s.2.2) ∧ secs.length ≤ 8 ∧
  (∀ ss : List Sec, ss.Perm secs → SecSrt ss → TkOk ⟨nm, hi, gap, gap, 1, ss⟩) ∧
  ∀ (H' : Hp) (t : Addr) (ss : List Sec), Same H H' → ss.Perm secs → SecSrt ss → TkAt K H' t ⟨nm, hi, gap, gap, 1, ss⟩ → Q (.ref t) H'
abbrev st_make_task : Stmt := topS 24
theorem sc_make_task : FnScope ["name", "longest", "gap", "deadline", "room", "sections"] ["name", "longest", "gap", "deadline", "room", "sections"] (defScope st_make_task) := ⟨rfl, rfl, rfl, by decide +kernel, rfl, by decide +kernel, by decide +kernel⟩
theorem ok_make {f : Addr} {fd : FuncData} (F : FunD K "make_task" "make_task" (defArgs st_make_task) (defBody st_make_task) (defScope st_make_task) [] [("deadline", .non), ("room", .int 1)] f fd)
    (c__built_task : Cal P w K mg base "_built_task" 6 ["name", "longest", "gap", "sections", "deadline", "room"] (spBuilt K)) : FnR P w K mg base CX0 7 f (spMake K) := by
  have R := fn_starD (P := P) (w := w) (mg := mg) (base := base) (k := 6) (ps := ["name", "longest", "gap"]) (pv := "sections") (sp := spMakeB K) F (by simp) sc_make_task (fun D doc pm an cdv ct us rest mv h1 h2 => ?_) (fun cdv A outer s H vs Q E hr h => ?_)
  · refine R.imp fun vs H Q E h => ?_
    obtain ⟨nm, hi, gap, secs, xs, rfl, hA, hnd, hN, h8, hok, q⟩ := h
    have hlx : xs.length = secs.length := by rw [dpAll_len hA, List.length_map]
    refine ⟨[.str nm, .int hi, .int gap], xs, rfl, rfl, Nat.le_trans (show xs.length ≤ 8 by omega) (by decide), fun p hp => ?_⟩
    refine ⟨.str nm, .int hi, .int gap, .non, .int 1, .ref p, rfl, nm, hi, gap, gap, 1, .non, p, secs, xs, rfl, .inl (.inl upd_same), dpAll_tk (TK.new hp) _ _ (secs_tup secs) hA, hnd, hN, h8, .inl ⟨rfl, rfl⟩, hok, fun H' t ss hs => ?_⟩
    exact q H' t ss fun b o e => hs b o (sameNew hp b o e)
  · match us, h1, mv, h2, rest with
    | [a, b, c], _, [m1, m2], _, [] => exact ⟨_, _, _, _, _, _, rfl, rfl, _, _, _, _, _, _, rfl, rfl, rfl⟩
    | [a, b, c], _, [m1, m2], _, r :: rs => exact ⟨_, _, _, _, _, _, rfl, rfl, _, _, _, _, _, _, rfl, rfl, rfl⟩
  · obtain ⟨a, b, c, d, e, q, rfl, h⟩ := h
    refine ⟨_, (pss_one (ps_ret (pe_c c__built_task (hr.mono (by decide)) (pa_cons (pv 0) (pa_cons (pv 1) (pa_cons (pv 2) (pa_cons (pv 5) (pa_cons (pv 3) (pa_cons (pv 4) pa_nil))))))))), ?_⟩
    walk_at "go"
    exact h
end
end Pre

set_option Elab.async false
set_option linter.all false
set_option maxRecDepth 100000
set_option maxHeartbeats 4000000
namespace Pre
open PySem PySem.Spec PyProof.Rows L2 Gd
local macro_rules | `(tactic| walk_at "side") => `(tactic| ((try dsimp only); first | exact rfl | decide | omega | exact Nat.le_of_ble_eq_true rfl | exact Or.inl ⟨by decide, by decide⟩ | exact Or.inr ⟨by decide, by decide⟩ | exact ⟨by decide, by decide⟩ | exact ⟨by omega, by omega⟩ | exact fm64 (by decide) (by decide) | exact ⟨by decide, by decide, by decide⟩ | decide +kernel | exact ⟨by decide +kernel, by decide +kernel⟩))
local macro_rules | `(tactic| walk_at "go1") => `(tactic| first | refine ⟨_, rfl, ?_⟩ | refine ⟨_, _, rfl, rfl, ?_⟩ | refine ⟨_, _, rfl, ?_⟩ | refine Or.inl ⟨_, rfl, ?_⟩ | refine Or.inr ⟨_, rfl, ?_⟩ | refine ⟨_, _, _, rfl, ?_⟩ | refine ⟨_, _, _, _, rfl, ?_⟩ | refine ⟨_, _, _, _, rfl, rfl, by first | assumption | exact SqL.of upd_same | exact upd_same, by rfl, ?_⟩ | refine ⟨_, _, _, _, true, rfl, .ty _, .base (.int _), kit_ty (by decide +kernel), ?_⟩ | refine ⟨_, _, _, _, false, rfl, .ty _, .base (.int _), kit_ty (by decide +kernel), ?_⟩ | refine ⟨_, _, _, _, true, rfl, .ty _, .base (.str _), kit_ty (by decide +kernel), ?_⟩ | refine ⟨_, _, _, _, true, rfl, .ty _, tyx_t (by assumption), kit_ty (by decide +kernel), ?_⟩ | refine ⟨_, _, rfl, .inl (by assumption), ?_⟩ | refine ⟨_, _, rfl, .inr (by assumption), ?_⟩ | refine ⟨_, _, rfl, by assumption, by rfl, ?_⟩ | refine And.intro (by walk_at "side") ?_)
local macro_rules | `(tactic| walk_at "go") => `(tactic| repeat walk_at "go1")
section
variable {P : Program} {w : World} {K : PySem.W.Frag} {mg : Str → Option Value} {base : Heap}
/-- the def x keeps its promise of positions -/
def CalR (P : Program) (w : World) (K : PySem.W.Frag) (mg : Str → Option Value) (base : Heap) (x : Str) (k : Nat) (sp : Sp) : Prop :=
  ∃ f, mg x = some (.ref f) ∧ PySem.W.keepIn K (.ref f) = true ∧ FnR P w K mg base CX0 k f sp
theorem pe_cr {X : Cx} {x : Str} {k : Nat} {sp : Sp} {p pos : Pos} {e : Expr} {es : List Expr} {t : TA} (C : CalR X.prog X.w X.K X.mg X.base x k sp) (hr : Room k X.A) (ha : PA X (e :: es) t) (hg : Gl X x := by rfl)
    (hdb : (x == ("__debug__" : Str)) = false := by decide) (hse : starEach (e :: es) X.env = (false, eval e X.env) :: starEach es X.env := by rfl)
    (hno : (backTo pos (starEach es X.env)).any (·.1) = false := by rfl) : PE X (.Call (.Name x p) (e :: es) [] pos) (tCall sp [] E0 t) := by
  obtain ⟨f, hm, hk, F⟩ := C
  exact pe_r F hr hg hm hk ha hdb hse hno
/-! ### what is compared -/
theorem nodup_le : ∀ {a b : List Str}, a.Nodup → (∀ x ∈ a, x ∈ b) → a.length ≤ b.length
  | [], b, _, _ => Nat.zero_le _
  | x :: r, b, nd, h => by
    obtain ⟨n1, n2⟩ := List.nodup_cons.mp nd
    have hx := h x List.mem_cons_self
    have := nodup_le (a := r) (b := b.erase x) n2 fun y hy => (List.mem_erase_of_ne (fun e => by subst e; exact n1 hy)).mpr (h y (List.mem_cons_of_mem _ hy))
    rw [List.length_erase_of_mem hx] at this
    have hp : 0 < b.length := List.length_pos_of_mem hx
    simp only [List.length_cons]
    omega
theorem sql_same {H G : Hp} {a : Addr} {xs : List V} (h : SqL K H a xs) (s : Same H G) : SqL K G a xs := by
  rcases h with (h | ⟨o, h⟩) | h
  · exact .inl (.inl (s _ _ h))
  · exact .inl (.inr ⟨o, s _ _ h⟩)
  · exact .inr h
theorem same_nxt {H G G' : Hp} {p : Addr} (hp : H p = none) (s : Same H G) (x : Nxt p G G') : Same H G' := fun b o e => x.off b o (ne_of_none e hp) (s b o e)
def lockD : Option Str → PyData
  | none => .none
  | some z => .str z
def rowD (secs : List Sec) (n : Nat) : List PyData := (List.range n).map fun (r : Nat) => lockD (lockAt secs (r : Int))
theorem row_data {H : Hp} (secs : List Sec) : ∀ l : List Nat, DpAll K H (l.map fun (r : Nat) => lockV (lockAt secs (r : Int))) (l.map fun (r : Nat) => lockD (lockAt secs (r : Int)))
  | [] => .nil
  | r :: l => by
    refine .cons ?_ (row_data secs l)
    dsimp only
    cases lockAt secs (r : Int) with
    | none => exact .non
    | some z => exact .str z
theorem lock_in {secs : List Sec} {r : Int} {z : Str} (h : lockAt secs r = some z) : ∃ s ∈ secs, s.2.2 = z ∧ s.1 < r ∧ r < s.2.1 := by
  unfold lockAt at h
  obtain ⟨s, hs, rfl⟩ := Option.map_eq_some_iff.mp h
  have h1 := List.mem_of_find?_eq_some hs
  have h2 := List.find?_some hs
  have h3 := of_decide_eq_true (show decide (s.1 < r ∧ r < s.2.1) = true from h2)
  exact ⟨s, h1, rfl, h3.1, h3.2⟩
theorem row_fine {l : Ln} (h : TkOk l) : Fine (.list (rowD l.secs l.high.toNat)) := by
  have each : ∀ d ∈ rowD l.secs l.high.toNat, leafOk d = true ∧ d.weight ≤ 8 ∧ d.depth ≤ 0 := fun d hd => by
    obtain ⟨r, _, rfl⟩ := List.mem_map.mp hd
    cases e : lockAt l.secs (r : Int) with
    | none => exact ⟨rfl, by decide, by decide⟩
    | some z =>
      obtain ⟨s, hs, rfl, _⟩ := lock_in e
      have hn := (h.sc s hs).2.2.2
      refine ⟨?_, hn.2.1, Nat.le_refl _⟩
      simp only [lockD, leafOk, List.all_eq_true]
      intro c hc
      have := hn.2.2 c hc
      exact decide_eq_true (Nat.lt_of_le_of_lt this.2 (by decide))
  have hl : (rowD l.secs l.high.toNat).length ≤ 100 := by
    have := h.hi
    simp only [rowD, List.length_map, List.length_range]
    omega
  refine ⟨?_, ?_, ?_⟩
  · simp only [leafOk]; exact leafAll_of fun d hd => (each d hd).1
  · have := weightAll_le fun d hd => (each d hd).2.1
    simp only [PyData.weight]
    have h2 : (8 + 1) * (rowD l.secs l.high.toNat).length ≤ 9 * 100 := Nat.mul_le_mul_left 9 hl
    omega
  · have := depthAll_le fun d hd => (each d hd).2.2
    simp only [PyData.depth]
    omega
theorem row_last {l : Ln} (h : TkOk l) : atI (lockRow l.secs l.high.toNat) (-1) = some V.non := by
  obtain ⟨n, hn⟩ : ∃ n : Nat, l.high.toNat = n + 1 := ⟨l.high.toNat - 1, by have := h.hi; omega⟩
  unfold lockRow
  rw [hn, List.range_succ, List.map_append]
  have e : lockAt l.secs (n : Int) = none := by
    cases q : lockAt l.secs (n : Int) with
    | none => rfl
    | some z =>
      obtain ⟨s, hs, _, _, h2⟩ := lock_in q
      have := (h.sc s hs).2.2.1
      omega
  show atI (_ ++ [lockV (lockAt l.secs (n : Int))]) (-1) = _
  rw [e]
  exact atI_last _ _
theorem weightKv_le {c : Nat} : ∀ {ds : List (PyData × PyData)}, (∀ d ∈ ds, d.1.weight ≤ c ∧ d.2.weight ≤ c) → PyData.weightKv ds ≤ (2 * c + 2) * ds.length
  | [], _ => by simp [PyData.weightKv]
  | (a, b) :: r, h => by
    have h1 := h (a, b) List.mem_cons_self
    have h2 := weightKv_le (c := c) (ds := r) fun d hd => h d (List.mem_cons_of_mem _ hd)
    simp only [PyData.weightKv, List.length_cons]
    rw [Nat.mul_add, Nat.mul_one]
    dsimp only at h1
    omega
theorem depthKv_le {c : Nat} : ∀ {ds : List (PyData × PyData)}, (∀ d ∈ ds, d.1.depth ≤ c ∧ d.2.depth ≤ c) → PyData.depthKv ds ≤ c
  | [], _ => by simp [PyData.depthKv]
  | (a, b) :: r, h => by
    have h1 := h (a, b) List.mem_cons_self
    have h2 := depthKv_le (c := c) (ds := r) fun d hd => h d (List.mem_cons_of_mem _ hd)
    simp only [PyData.depthKv]
    dsimp only at h1
    omega
theorem leafKv_of : ∀ {ds : List (PyData × PyData)}, (∀ d ∈ ds, leafOk d.1 = true ∧ leafOk d.2 = true) → leafKv ds = true
  | [], _ => rfl
  | (a, b) :: r, h => by
    have h1 := h (a, b) List.mem_cons_self
    simp only [leafKv, Bool.and_eq_true]
    exact ⟨⟨h1.1, h1.2⟩, leafKv_of fun d hd => h d (List.mem_cons_of_mem _ hd)⟩
/-- a dict of lengths is fine data -/
theorem len_data {l : Ln} {kvs : List (Key × V)} (h : TkOk l) (x : LenD l.secs kvs) : ∃ ds : List PyData, (∀ H : Hp, DpAll K H (kvs.map (·.2)) ds) ∧ (∀ e ∈ ds, flatD e = true) ∧ Fine (.dict ((kvs.map fun p => kD p.1).zip ds)) := by
  obtain ⟨ys, rfl, nd, srt, mem⟩ := x
  have bnd : ∀ z ∈ ys, leafOk (.str z) = true ∧ (PyData.str z).weight ≤ 101 ∧ leafOk (.int ((lenO l.secs z).getD 0)) = true ∧ (PyData.int ((lenO l.secs z).getD 0)).weight ≤ 101 := fun z hz => by
    obtain ⟨s0, hs0, rfl⟩ := (mem z).mp hz
    have hn := (h.sc s0 hs0).2.2.2
    have hls : ∃ M, lenO l.secs s0.2.2 = some M := by
      have := (lenO_some s0.2.2 l.secs none).mpr (.inr ⟨s0, hs0, rfl⟩)
      exact Option.isSome_iff_exists.mp this
    obtain ⟨M, hM⟩ := hls
    obtain ⟨⟨s1, hs1, _, em⟩, _⟩ := lenO_max s0.2.2 l.secs (fun s hs => (h.sc s hs).2.1) M hM
    have b1 := h.sc s1 hs1
    have b2 := h.hi
    rw [hM]
    have hm : M.natAbs < 10 ^ 30 := Nat.lt_of_le_of_lt (show M.natAbs ≤ 100 by omega) (by decide)
    refine ⟨?_, Nat.le_trans hn.2.1 (by decide), decide_eq_true hm, log_small hm⟩
    simp only [leafOk, List.all_eq_true]
    intro c hc
    have := hn.2.2 c hc
    exact decide_eq_true (Nat.lt_of_le_of_lt this.2 (by decide))
  have hlen : ys.length ≤ 8 := by
    have h1 : ys.length ≤ (l.secs.map fun s => s.2.2).length := nodup_le nd fun z hz => by
      obtain ⟨s, hs, e⟩ := (mem z).mp hz
      exact List.mem_map.mpr ⟨s, hs, e⟩
    rw [List.length_map] at h1
    exact Nat.le_trans h1 h.sl
  refine ⟨ys.map fun z => .int ((lenO l.secs z).getD 0), fun H => ?_, fun e he => ?_, ?_⟩
  · rw [List.map_map]
    clear bnd hlen nd srt mem
    induction ys with
    | nil => exact .nil
    | cons z r ih => exact .cons (.int _) ih
  · obtain ⟨z, _, rfl⟩ := List.mem_map.mp he; rfl
  · have ez : (ys.map (row fun z => (lenO l.secs z).getD 0)).map (fun p => kD p.1) = ys.map fun z => PyData.str z := by rw [List.map_map]; rfl
    rw [ez, List.zip_map']
    have each : ∀ d ∈ ys.map (fun z => (PyData.str z, PyData.int ((lenO l.secs z).getD 0))), (leafOk d.1 = true ∧ leafOk d.2 = true) ∧ (d.1.weight ≤ 101 ∧ d.2.weight ≤ 101) ∧ (d.1.depth ≤ 0 ∧ d.2.depth ≤ 0) := fun d hd => by
      obtain ⟨z, hz, rfl⟩ := List.mem_map.mp hd
      have b := bnd z hz
      exact ⟨⟨b.1, b.2.2.1⟩, ⟨b.2.1, b.2.2.2⟩, ⟨Nat.le_refl _, Nat.le_refl _⟩⟩
    refine ⟨?_, ?_, ?_⟩
    · simp only [leafOk]; exact leafKv_of fun d hd => (each d hd).1
    · have := weightKv_le fun d hd => (each d hd).2.1
      simp only [PyData.weight]
      rw [List.length_map] at this
      have h2 : (2 * 101 + 2) * ys.length ≤ 204 * 8 := Nat.mul_le_mul_left 204 hlen
      omega
    · have := depthKv_le fun d hd => (each d hd).2.2
      simp only [PyData.depth]
      omega
/-! ### the written lines -/
theorem sec_anti {x y : Sec} (h1 : lLt (secK y) (secK x) = false) (h2 : lLt (secK x) (secK y) = false) : x = y := by
  have e : secK x = secK y := Classical.byContradiction fun n => by
    have := lLt_tri n h2
    rw [h1] at this; cases this
  obtain ⟨a, b, c⟩ := x
  obtain ⟨d, e', f⟩ := y
  simp only [secK, List.cons.injEq, Sum.inl.injEq, Sum.inr.injEq, and_true] at e
  obtain ⟨rfl, rfl, rfl⟩ := e
  rfl
theorem srt_one : ∀ {a b : List Sec}, a.Perm b → SecSrt a → SecSrt b → a = b
  | [], b, p, _, _ => (List.Perm.nil_eq p)
  | x :: r, [], p, _, _ => (List.Perm.eq_nil p)
  | x :: r, y :: t, p, h1, h2 => by
    obtain ⟨a1, a2⟩ := List.pairwise_cons.mp h1
    obtain ⟨b1, b2⟩ := List.pairwise_cons.mp h2
    have e : x = y := by
      rcases List.mem_cons.mp (p.mem_iff.mp List.mem_cons_self) with e | m1
      · exact e
      · rcases List.mem_cons.mp (p.mem_iff.mpr (List.mem_cons_self (a := y) (l := t))) with e | m2
        · exact e.symm
        · exact sec_anti (a1 y m2) (b1 x m1)
    subst e
    rw [srt_one p.cons_inv a2 b2]
def S1 : List Sec := [(0, 1, "c"), (1, 5, "b"), (5, 8, "b")]
theorem pm1 : List.Perm [((5, 8, "b") : Sec), (0, 1, "c"), (1, 5, "b")] S1 := by decide +kernel
theorem srt1 : SecSrt S1 := by unfold SecSrt SrtO.Srtd; decide +kernel
theorem tk1 : TkOk ⟨"a", 9, 30, 30, 1, S1⟩ := ⟨by decide +kernel, by decide, by decide, by decide, by decide, by decide, by decide +kernel, by decide +kernel⟩
def S2 : List Sec := [(0, 99, "q")]
theorem tk2 : TkOk ⟨"a", 100, 1000, 1000, 1, S2⟩ := ⟨by decide +kernel, by decide, by decide, by decide, by decide, by decide, by decide +kernel, by decide +kernel⟩
theorem tk3 : TkOk ⟨"a", 1, 2, 2, 1, []⟩ := ⟨by decide +kernel, by decide, by decide, by decide, by decide, by decide, by decide +kernel, by decide +kernel⟩
theorem row_next {secs : List Sec} {n i : Nat} (h : i < n) : (lockRow secs n).take i ++ [lockV (lockAt secs (0 + (i : Int)))] = (lockRow secs n).take (i + 1) := by
  have e : (lockRow secs n)[i]? = some (lockV (lockAt secs (0 + (i : Int)))) := by
    unfold lockRow
    rw [List.getElem?_map, List.getElem?_range h, Int.zero_add]; rfl
  rw [List.take_add_one, e]; rfl
theorem len1 : LenD S1 [(.inr "b", .int 4), (.inr "c", .int 1)] := by
  refine ⟨["b", "c"], by decide +kernel, by decide +kernel, by decide +kernel, fun z => ?_⟩
  simp [S1, eq_comm]
  exact or_comm
theorem lock_dp {H : Hp} {o : Option Str} : Dp K H (lockV o) (lockD o) := by
  cases o with
  | none => exact .non
  | some z => exact .str z
theorem len0 : LenD [] [] := ⟨[], rfl, .nil, rfl, fun z => by simp⟩
def spLaw (K : PySem.W.Frag) : Sp := fun vs H Q _ => ∃ (a : Addr) (ns : List Int), vs = [.ref a] ∧ SqL K H a (ns.map V.int) ∧ ns.length ≤ 63 ∧ ∀ H', Q (.bl true) H'
abbrev st_law : Stmt := topS 38
theorem sc_law : FnScope ["script", "at", "line", "found", "most", "stream", "turn", "due", "ran"] ["script"] (defScope st_law) := ⟨rfl, rfl, rfl, by decide +kernel, rfl, by decide +kernel, by decide +kernel⟩
theorem ok_law {f : Addr} {fd : FuncData} (F : Fun K "law" "law" st_law f fd) (B : Bts mg) (c__law_stream : Cal P w K mg base "_law_stream" 1 ["script", "at"] (spStream K)) (c__law_line : Cal P w K mg base "_law_line" 5 ["stream"] (spLine K))
    (c__law_locks : Cal P w K mg base "_law_locks" 1 ["line"] (spLocks K)) (c__law_lengths : Cal P w K mg base "_law_lengths" 1 ["line"] (spLengths K)) (c_lock_inside : Cal P w K mg base "lock_inside" 6 ["task", "ran"] (spLock K))
    (c_section_lengths : Cal P w K mg base "section_lengths" 6 ["task"] (spLens K)) (c_make_task : CalR P w K mg base "make_task" 7 (spMake K)) : Gn P w K mg base 8 f fd ["script"] (spLaw K) := by
  refine gn_of F sc_law (fun vs H Q E h => ?_) (fun cdv A outer s H vs Q E hr h => ?_)
  · obtain ⟨a, ns, rfl, _⟩ := h; rfl
  · obtain ⟨a, ns, rfl, hA, hn, q⟩ := h
    refine ⟨_, (pss_cons (ps_for PassesOwn.never rfl (pi_range1 (by rfl) B.range (pa_cons (pe_callB (call_max2 rfl) (by rfl) B.max (by decide +kernel) (pa_cons pe_int (pa_cons (pe_callB (call_min2 rfl) (by rfl) B.min (by decide +kernel) (pa_cons pe_int (pa_cons (pe_callB (k_len (K := K) rfl) (by rfl) B.len (by decide +kernel) (pa_cons (pv 0) pa_nil)) pa_nil))) pa_nil))) pa_nil)) (pg_name (i := 1) sc_law.nd rfl (by first | exact Or.inl rfl | exact Or.inr rfl)) (pss_cons (ps_set (i := 5) sc_law.nd rfl (by first | exact Or.inl rfl | exact Or.inr rfl) (pe_c c__law_stream (hr.rm.mono (by decide)) (pa_cons (pv 0) (pa_cons (pv 1) pa_nil))))
    (pss_one (ps_for PassesOwn.never rfl (pi_range1 (by rfl) B.range (pa_cons pe_int pa_nil)) (pg_name (i := 6) sc_law.nd rfl (by first | exact Or.inl rfl | exact Or.inr rfl)) (pss_cons (ps_set (i := 2) sc_law.nd rfl (by first | exact Or.inl rfl | exact Or.inr rfl) (pe_c c__law_line (hr.rm.mono (by decide)) (pa_cons (pv 5) pa_nil)))
      (pss_cons (ps_set (i := 7) sc_law.nd rfl (by first | exact Or.inl rfl | exact Or.inr rfl) (pe_c c__law_locks (hr.rm.mono (by decide)) (pa_cons (pv 2) pa_nil)))
      (pss_cons (ps_setLc (i := 3) (own := [("ran", 8)]) (g := gName 8) (tt := tYes) rfl sc_law.nd rfl rfl (sw_true rfl rfl rfl (by decide +kernel)) (pi_range1 (by rfl) B.range (pa_cons (pe_ix (kx_tup (K := K) rfl) (pv 2) pe_int (fun _ _ => rfl)) pa_nil)) (blkOk_by (own := [("ran", 8)]) (N := ["script", "at", "line", "found", "most", "stream", "turn", "due", "ran"]) (sc := defScope st_law) (by decide +kernel)) (fun _ _ _ _ _ => pg_name (i := 8) sc_law.nd rfl (by first | exact Or.inl rfl | exact Or.inr rfl)) (fun _ _ _ _ _ => pts_nil) (fun _ _ _ _ _ => (pe_c c_lock_inside (hr.rm.mono (by decide)) (pa_cons (pv 2) (pa_cons (pv 8) pa_nil)))))
      (pss_cons (ps_if (PW.pt (pw_or (pt_cmpR op_ne (pe_callB (k_repr (K := K) rfl hr.gd hr.rm.units) (by rfl) B.repr (by decide +kernel) (pa_cons (pv 3) pa_nil)) (pe_callB (k_repr (K := K) rfl hr.gd hr.rm.units) (by rfl) B.repr (by decide +kernel) (pa_cons (pv 7) pa_nil)) (nomark _)) (pw_or1 (pt_cmpR op_notN (pe_ix (kx_list (K := K) rfl) (pv 7) (pe_un un_neg pe_int) (fun _ _ => rfl)) pe_non (nomark _))))) (pss_one (ps_ret pe_bl)) pss_nil)
      (pss_one (ps_if (pt_cmpR op_ne (pe_callB (k_repr (K := K) rfl hr.gd hr.rm.units) (by rfl) B.repr (by decide +kernel) (pa_cons (pe_c c_section_lengths (hr.rm.mono (by decide)) (pa_cons (pv 2) pa_nil)) pa_nil)) (pe_callB (k_repr (K := K) rfl hr.gd hr.rm.units) (by rfl) B.repr (by decide +kernel) (pa_cons (pe_c c__law_lengths (hr.rm.mono (by decide)) (pa_cons (pv 2) pa_nil)) pa_nil)) (nomark _)) (pss_one (ps_ret pe_bl)) pss_nil))))))))))
  (pss_cons (ps_set (i := 2) sc_law.nd rfl (by first | exact Or.inl rfl | exact Or.inr rfl) (pe_cr c_make_task (hr.rm.mono (by decide)) (pa_cons pe_str (pa_cons pe_int (pa_cons pe_int (pa_cons (pe_tup (pa_cons pe_int (pa_cons pe_int (pa_cons pe_str pa_nil)))) (pa_cons (pe_tup (pa_cons pe_int (pa_cons pe_int (pa_cons pe_str pa_nil)))) (pa_cons (pe_tup (pa_cons pe_int (pa_cons pe_int (pa_cons pe_str pa_nil)))) pa_nil))))))))
  (pss_cons (ps_setLc (i := 3) (own := [("ran", 8)]) (g := gName 8) (tt := tYes) rfl sc_law.nd rfl rfl (sw_true rfl rfl rfl (by decide +kernel)) (pi_range1 (by rfl) B.range (pa_cons pe_int pa_nil)) (blkOk_by (own := [("ran", 8)]) (N := ["script", "at", "line", "found", "most", "stream", "turn", "due", "ran"]) (sc := defScope st_law) (by decide +kernel)) (fun _ _ _ _ _ => pg_name (i := 8) sc_law.nd rfl (by first | exact Or.inl rfl | exact Or.inr rfl)) (fun _ _ _ _ _ => pts_nil) (fun _ _ _ _ _ => (pe_c c_lock_inside (hr.rm.mono (by decide)) (pa_cons (pv 2) (pa_cons (pv 8) pa_nil)))))
  (pss_cons (ps_if (PW.pt (pw_or (pt_cmpR (ko_neD (K := K) rfl hr.rm.units) (pv 3) (pe_lst (pa_cons pe_non (pa_cons pe_non (pa_cons pe_str (pa_cons pe_str (pa_cons pe_str (pa_cons pe_non (pa_cons pe_str (pa_cons pe_str (pa_cons pe_non pa_nil)))))))))) (nomark _)) (pw_or1 (pt_cmpR (op_ne_dictA (Nat.lt_of_succ_lt (hu_of hr.rm))) (pe_c c_section_lengths (hr.rm.mono (by decide)) (pa_cons (pv 2) pa_nil)) (pe_disp (pps_cons pe_str pe_int (pps_cons pe_str pe_int pps_nil)) (by rfl) (by rfl) (fun z => by cases z) (by decide)) (nomark _))))) (pss_one (ps_ret pe_bl)) pss_nil)
  (pss_cons (ps_set (i := 4) sc_law.nd rfl (by first | exact Or.inl rfl | exact Or.inr rfl) (pe_cr c_make_task (hr.rm.mono (by decide)) (pa_cons pe_str (pa_cons pe_int (pa_cons pe_int (pa_cons (pe_tup (pa_cons pe_int (pa_cons pe_int (pa_cons pe_str pa_nil)))) pa_nil))))))
  (pss_cons (ps_set (i := 3) sc_law.nd rfl (by first | exact Or.inl rfl | exact Or.inr rfl) (pe_lst (pa_cons (pe_c c_lock_inside (hr.rm.mono (by decide)) (pa_cons (pv 4) (pa_cons pe_int pa_nil))) (pa_cons (pe_c c_lock_inside (hr.rm.mono (by decide)) (pa_cons (pv 4) (pa_cons pe_int pa_nil))) (pa_cons (pe_c c_lock_inside (hr.rm.mono (by decide)) (pa_cons (pv 4) (pa_cons pe_int pa_nil))) (pa_cons (pe_c c_lock_inside (hr.rm.mono (by decide)) (pa_cons (pv 4) (pa_cons pe_int pa_nil))) pa_nil))))))
  (pss_one (ps_ret (pe_and (pe_cmpR (ko_eqD (K := K) rfl hr.rm.units) (pv 3) (pe_lst (pa_cons pe_non (pa_cons pe_str (pa_cons pe_str (pa_cons pe_non pa_nil))))) (nomark _)) (pe_one (pe_cmpR (op_eq_dictA (Nat.lt_of_succ_lt (hu_of hr.rm))) (pe_c c_section_lengths (hr.rm.mono (by decide)) (pa_cons (pe_cr c_make_task (hr.rm.mono (by decide)) (pa_cons pe_str (pa_cons pe_int (pa_cons pe_int pa_nil)))) pa_nil)) pe_dnewK (nomark _)))))))))))), ?_⟩
    walk_at "go"
    refine for_range (lo := 0) (n := _) (fun i σ G => ∃ (t1 t2 t3 t4 t5 t6 t7 t8 : Option V), σ = [some (.ref a), t1, t2, t3, t4, t5, t6, t7, t8] ∧ Same H G) ⟨_, _, _, _, _, _, _, _, rfl, fun _ _ e => e⟩ (fun i σ G hi hp => ?_) (fun σ G hp => ?_)
    · obtain ⟨t1, t2, t3, t4, t5, t6, t7, t8, rfl, hG⟩ := hp
      have hAG := sql_same hA hG
      walk_at "go"
      refine ⟨a, ns, i, by simp, hAG, fun p x y hx hp => ?_⟩
      have hHp : H p = none := nH0 hp hG
      have hG1 : Same H (upd G p (stm x y 0)) := fun b o e => sameNew hp b o (hG b o e)
      have hs1 : Stm p (upd G p (stm x y 0)) := ⟨x, y, 0, hx, upd_same⟩
      walk_at "go"
      refine for_range (lo := 0) (n := 5) (fun j σ G => ∃ (t1 t2 t3 t4 t6 t7 t8 : Option V), σ = [some (.ref a), t1, t2, t3, t4, some (.ref p), t6, t7, t8] ∧ Same H G ∧ Stm p G) ⟨_, _, _, _, _, _, _, rfl, hG1, hs1⟩ (fun j σ G2 hj hp2 => ?_) (fun σ G2 hp2 => ?_)
      · obtain ⟨t1, t2, t3, t4, t6, t7, t8, rfl, hG2, hs2⟩ := hp2
        walk_at "go"
        intro G3 t l hN hT
        have hG3 := same_nxt hHp hG2 hN
        have hs3 := hN.st
        walk_at "go"
        refine ⟨t, l, rfl, hT, fun G4 D h34 hD3 hD4 => ?_⟩
        have hG4 : Same H G4 := fun b o e => h34 b o (hG3 b o e)
        obtain ⟨_, _, _, hst⟩ := id hs3
        have hs4 : Stm p G4 := ⟨_, _, _, hst.1, h34 _ _ hst.2⟩
        have hT4 := hT.same (tks h34)
        obtain ⟨t', sq, e, hS, hDs⟩ := dp_ln hT4.dp
        cases e
        have hh := hT.ok.hi
        walk_at "go"
        intro D2 hD2
        have nD : D ≠ D2 := fun e => by subst e; rw [hD4] at hD2; cases hD2
        refine lc_range (lo := 0) (n := _) (fun i G => G D2 = some (.lst ((lockRow l.secs l.high.toNat).take i)) ∧ Same G4 G) ⟨upd_same, sameNew hD2⟩ (fun i G5 hi hp => ?_) (fun G5 hp => ?_)
        · obtain ⟨k1, k2⟩ := hp
          refine ⟨rfl, ?_⟩
          walk_at "go"
          refine ⟨t, l, (0 + (i : Int)), rfl, hT4.same (tks k2), by omega, by omega, fun G6 h56 => ?_⟩
          have hil : i < (lockRow l.secs l.high.toNat).length := by simp only [lockRow, List.length_map, List.length_range]; omega
          have hgi : (lockRow l.secs l.high.toNat)[i]? = some (lockV (lockAt l.secs (0 + (i : Int)))) := by
            unfold lockRow
            rw [List.getElem?_map, List.getElem?_range (by simpa [lockRow] using hil), Int.zero_add]; rfl
          refine ⟨_, h56 _ _ k1, Nat.lt_of_le_of_lt (show _ ≤ 100 by rw [List.length_take]; simp only [lockRow, List.length_map, List.length_range]; omega) (by decide), by rw [upd_same, List.take_add_one, hgi]; rfl, fun b o e => ?_⟩
          rw [upd_ne (ne_of_none e hD2)]; exact h56 b o (k2 b o e)
        · obtain ⟨k1, k2⟩ := hp
          rw [List.take_of_length_le (by simp only [lockRow, List.length_map, List.length_range]; omega)] at k1
          have hG5 : Same H G5 := fun b o e => k2 b o (hG4 b o e)
          have hD5 := k2 _ _ hD4
          have hT5 := hT4.same (tks k2)
          have hs5 : Stm p G5 := ⟨_, _, _, hst.1, k2 _ _ (h34 _ _ hst.2)⟩
          walk_at "go"
          refine tnil ?_
          try dsimp -proj only
          refine ⟨.ref D2, _, rfl, .inl (.lst (SqL.of k1) (row_data _ _)), row_fine hT.ok, ?_⟩
          walk_at "go"
          refine tnil ?_
          try dsimp -proj only
          refine ⟨.ref D, _, rfl, .inl (.lst (SqL.of hD5) (row_data _ _)), row_fine hT.ok, ?_⟩
          refine ⟨rfl, _, rfl, ?_⟩
          refine iteF' (by simp [rowD]) ?_
          walk_at "go"
          refine ⟨D, _, -1, .non, rfl, rfl, SqL.of hD5, row_last hT.ok, ?_⟩
          walk_at "go"
          refine ⟨rfl, _, rfl, ?_⟩
          refine iteF' (by rfl) ?_
          walk_at "go"
          refine ⟨t, l, rfl, hT5, fun G6 p1 kvs1 h56 _ hd1 hl1 => ?_⟩
          refine tnil ?_
          try dsimp -proj only
          obtain ⟨ds1, a1, a2, a3⟩ := len_data hT.ok hl1
          refine ⟨.ref p1, _, rfl, .inr ⟨p1, kvs1, ds1, rfl, .inl hd1, a1 _, a2, rfl⟩, a3, ?_⟩
          walk_at "go"
          refine ⟨t, l, rfl, hT5.same (tks h56), fun G7 p2 kvs2 h67 _ hd2 hl2 => ?_⟩
          refine tnil ?_
          try dsimp -proj only
          have ek := hl1.one hl2
          subst ek
          refine ⟨.ref p2, _, rfl, .inr ⟨p2, kvs1, ds1, rfl, .inl hd2, a1 _, a2, rfl⟩, a3, ?_⟩
          refine ⟨rfl, _, rfl, ?_⟩
          refine iteF' (by simp) ?_
          walk_at "go"
          exact ⟨_, _, _, _, _, _, _, rfl, fun b o e => h67 b o (h56 b o (hG5 b o e)), ⟨_, _, _, hst.1, h67 _ _ (h56 _ _ (k2 _ _ (h34 _ _ hst.2)))⟩⟩
      · obtain ⟨t1, t2, t3, t4, t6, t7, t8, rfl, hG2, hs2⟩ := hp2
        exact ⟨_, _, _, _, _, _, _, _, rfl, hG2⟩
    · obtain ⟨t1, t2, t3, t4, t5, t6, t7, t8, rfl, hG⟩ := hp
      clear hG
      walk_at "go"
      intro p1 h1
      walk_at "go"
      intro p2 h2
      walk_at "go"
      intro p3 h3
      walk_at "go"
      have T2 := TK.new (o := .tup [.int 0, .int 1, .str "c"]) h2
      have T3 := TK.new (o := .tup [.int 1, .int 5, .str "b"]) h3
      have n12 : p1 ≠ p2 := fun e => by subst e; rw [upd_same] at h2; cases h2
      have n23 : p2 ≠ p3 := fun e => by subst e; rw [upd_same] at h3; cases h3
      have n13 : p1 ≠ p3 := fun e => by subst e; rw [upd_ne n12, upd_same] at h3; cases h3
      have q1 : Dp K (upd G p1 (.tup [.int 5, .int 8, .str "b"])) (.ref p1) (secD (5, 8, "b")) := .tup (.inl (.inl upd_same)) (.cons (.int _) (.cons (.int _) (.cons (.str _) .nil)))
      have q2 : Dp K (upd (upd G p1 (.tup [.int 5, .int 8, .str "b"])) p2 (.tup [.int 0, .int 1, .str "c"])) (.ref p2) (secD (0, 1, "c")) := .tup (.inl (.inl upd_same)) (.cons (.int _) (.cons (.int _) (.cons (.str _) .nil)))
      refine ⟨"a", 9, 30, [(5, 8, "b"), (0, 1, "c"), (1, 5, "b")], [.ref p1, .ref p2, .ref p3], rfl, .cons (dp_tk (T2.trans T3) _ _ (by rfl) q1) (.cons (dp_tk T3 _ _ (by rfl) q2) (.cons (.tup (.inl (.inl upd_same)) (.cons (.int _) (.cons (.int _) (.cons (.str _) .nil)))) .nil)),
        by simp [n12, n23, n13], by decide +kernel, by decide, fun ss hp hs => ?_, fun H1 t ss _ hp hs hT => ?_⟩
      · rw [srt_one (hp.trans pm1) hs srt1]; exact tk1
      rw [srt_one (hp.trans pm1) hs srt1] at hT
      clear hp hs
      walk_at "go"
      intro D hD
      refine lc_range (lo := 0) (n := _) (fun i G => G D = some (.lst ((lockRow S1 9).take i)) ∧ Same H1 G) ⟨upd_same, sameNew hD⟩ (fun i G5 hi hp => ?_) (fun G5 hp => ?_)
      · obtain ⟨k1, k2⟩ := hp
        have hi9 : i < 9 := hi
        refine ⟨rfl, ?_⟩
        walk_at "go"
        refine ⟨t, _, (0 + (i : Int)), rfl, hT.same (tks k2), by omega, (show (0 + (i : Int)) ≤ 9 - 1 by omega), fun G6 h56 => ?_⟩
        refine ⟨_, h56 _ _ k1, Nat.lt_of_le_of_lt (show _ ≤ 9 by rw [List.length_take]; simp only [lockRow, List.length_map, List.length_range]; omega) (by decide), by rw [upd_same, row_next (n := 9) (by omega)], fun b o e => ?_⟩
        rw [upd_ne (ne_of_none e hD)]; exact h56 b o (k2 b o e)
      · obtain ⟨k1, k2⟩ := hp
        have k1 : G5 D = some (.lst (lockRow S1 9)) := k1
        have hT5 := hT.same (tks k2)
        walk_at "go"
        intro pL hpL
        have k3 : Same H1 (upd G5 pL (.lst [.non, .non, .str "b", .str "b", .str "b", .non, .str "b", .str "b", .non])) := fun b o e => sameNew hpL b o (k2 b o e)
        have nDL : D ≠ pL := fun e => by subst e; rw [k1] at hpL; cases hpL
        refine ⟨.list (rowD S1 9), .list [.none, .none, .str "b", .str "b", .str "b", .none, .str "b", .str "b", .none], .lst (SqL.of (by rw [upd_ne nDL]; exact k1)) (row_data _ _),
          .lst (SqL.of upd_same) (.cons .non (.cons .non (.cons (.str _) (.cons (.str _) (.cons (.str _) (.cons .non (.cons (.str _) (.cons (.str _) (.cons .non .nil))))))))), by decide +kernel, by decide +kernel, _, rfl, ?_⟩
        refine iteF' (by decide +kernel) ?_
        walk_at "go"
        refine ⟨t, _, rfl, hT.same (tks k3), fun G6 pS kvs h56 _ hd hl => ?_⟩
        have k4 : Same H1 G6 := fun b o e => h56 b o (k3 b o e)
        have ek := hl.one len1
        subst ek
        intro pD hpD
        have nSD : pS ≠ pD := fun e => by subst e; rw [hd] at hpD; cases hpD
        refine ⟨upd_same, [(.inr "b", .int 4), (.inr "c", .int 1)], rfl, by decide, ?_⟩
        refine ⟨pS, pD, _, _, rfl, rfl, by rw [upd_ne nSD, upd_ne nSD]; exact hd, upd_same, by decide +kernel, by decide +kernel, _, rfl, ?_⟩
        refine iteF' (by rfl) ?_
        clear hT5 hl hd
        walk_at "go"
        intro p4 h4
        walk_at "go"
        refine ⟨"a", 100, 1000, [(0, 99, "q")], [.ref p4], rfl, .cons (.tup (.inl (.inl upd_same)) (.cons (.int _) (.cons (.int _) (.cons (.str _) .nil)))) .nil, by simp, by decide +kernel, by decide, fun ss hp hs => ?_, fun H2 t2' ss _ hp hs hT2 => ?_⟩
        · rw [srt_one (b := S2) hp hs (by unfold SecSrt SrtO.Srtd; decide +kernel)]; exact tk2
        rw [srt_one (b := S2) hp hs (by unfold SecSrt SrtO.Srtd; decide +kernel)] at hT2
        clear hp hs
        walk_at "go"
        refine ⟨t2', _, 0, rfl, hT2, by omega, by decide, fun Ga ha => ?_⟩
        walk_at "go"
        refine ⟨t2', _, 1, rfl, hT2.same (tks ha), by omega, by decide, fun Gb hb => ?_⟩
        have hT3 := (hT2.same (tks ha)).same (tks hb)
        walk_at "go"
        refine ⟨t2', _, 98, rfl, hT3, by omega, by decide, fun Gc hc => ?_⟩
        walk_at "go"
        refine ⟨t2', _, 99, rfl, hT3.same (tks hc), by omega, by decide, fun Gd' hd' => ?_⟩
        walk_at "go"
        intro pF hpF
        walk_at "go"
        intro pG hpG
        have nFG : pF ≠ pG := fun e => by subst e; rw [upd_same] at hpG; cases hpG
        refine ⟨.list [lockD (lockAt S2 0), lockD (lockAt S2 1), lockD (lockAt S2 98), lockD (lockAt S2 99)], .list [.none, .str "q", .str "q", .none], .lst (SqL.of (by rw [upd_ne nFG]; exact upd_same)) (.cons lock_dp (.cons lock_dp (.cons lock_dp (.cons lock_dp .nil)))),
          .lst (SqL.of upd_same) (.cons .non (.cons (.str _) (.cons (.str _) (.cons .non .nil)))), by decide +kernel, by decide +kernel, ?_⟩
        refine ⟨_, rfl, ?_⟩
        refine iteT' (by decide +kernel) ?_
        walk_at "go"
        refine ⟨"a", 1, 2, [], [], rfl, .nil, .nil, fun s hs => (nomatch hs), by decide, fun ss hp _ => ?_, fun G8 t8' ss _ hp _ hT8 => ?_⟩
        · rw [List.Perm.eq_nil hp]; exact tk3
        rw [List.Perm.eq_nil hp] at hT8
        walk_at "go"
        refine ⟨t8', _, rfl, hT8, fun G9 pS9 kvs9 _ _ hd9 hl9 => ?_⟩
        have ek := hl9.one len0
        subst ek
        intro pE hpE
        have nSE : pS9 ≠ pE := fun e => by subst e; rw [hd9] at hpE; cases hpE
        refine ⟨pS9, pE, _, _, rfl, rfl, by rw [upd_ne nSE]; exact hd9, upd_same, rfl, fun p hp => (nomatch hp), ?_⟩
        exact q _
end
end Pre

set_option Elab.async false
set_option linter.all false
set_option maxRecDepth 100000
set_option maxHeartbeats 0
namespace Hd
open PySem PySem.Spec PyProof.Rows L2 Gd Pre
/-! ### the head: facts by names, the run -/
def fn : List He.DefD := [⟨("is_whole", none), "is_whole", "is_whole", defArgs (topS 5), defBody (topS 5), defScope (topS 5), [], []⟩,
  ⟨("is_between", none), "is_between", "is_between", defArgs (topS 6), defBody (topS 6), defScope (topS 6), [], []⟩,
  ⟨("check_between", none), "check_between", "check_between", defArgs (topS 7), defBody (topS 7), defScope (topS 7), [], []⟩,
  ⟨("is_name", none), "is_name", "is_name", defArgs (topS 17), defBody (topS 17), defScope (topS 17), [], []⟩,
  ⟨("_is_section", none), "_is_section", "_is_section", defArgs (topS 18), defBody (topS 18), defScope (topS 18), [], []⟩,
  ⟨("_are_sections", none), "_are_sections", "_are_sections", defArgs (topS 19), defBody (topS 19), defScope (topS 19), [], []⟩,
  ⟨("_are_numbers", none), "_are_numbers", "_are_numbers", defArgs (topS 20), defBody (topS 20), defScope (topS 20), [], []⟩,
  ⟨("is_task", none), "is_task", "is_task", defArgs (topS 21), defBody (topS 21), defScope (topS 21), [], []⟩,
  ⟨("check_task", none), "check_task", "check_task", defArgs (topS 22), defBody (topS 22), defScope (topS 22), [], []⟩,
  ⟨("_built_task", none), "_built_task", "_built_task", defArgs (topS 23), defBody (topS 23), defScope (topS 23), [], []⟩,
  ⟨("make_task", none), "make_task", "make_task", defArgs (topS 24), defBody (topS 24), defScope (topS 24), [], [("deadline", .non), ("room", .int 1)]⟩,
  ⟨("lock_inside", none), "lock_inside", "lock_inside", defArgs (topS 25), defBody (topS 25), defScope (topS 25), [], []⟩,
  ⟨("section_lengths", none), "section_lengths", "section_lengths", defArgs (topS 26), defBody (topS 26), defScope (topS 26), [], []⟩,
  ⟨("_law_stream", none), "_law_stream", "_law_stream", defArgs (topS 28), defBody (topS 28), defScope (topS 28), [], []⟩,
  ⟨("_law_draw", none), "_law_draw", "_law_draw", defArgs (topS 29), defBody (topS 29), defScope (topS 29), [], []⟩,
  ⟨("_law_pick", none), "_law_pick", "_law_pick", defArgs (topS 30), defBody (topS 30), defScope (topS 30), [], []⟩,
  ⟨("_law_mixed", none), "_law_mixed", "_law_mixed", defArgs (topS 31), defBody (topS 31), defScope (topS 31), [], []⟩,
  ⟨("_law_names", none), "_law_names", "_law_names", defArgs (topS 32), defBody (topS 32), defScope (topS 32), [], []⟩,
  ⟨("_law_sections", none), "_law_sections", "_law_sections", defArgs (topS 33), defBody (topS 33), defScope (topS 33), [], []⟩,
  ⟨("_law_some", none), "_law_some", "_law_some", defArgs (topS 34), defBody (topS 34), defScope (topS 34), [], []⟩,
  ⟨("_law_line", none), "_law_line", "_law_line", defArgs (topS 35), defBody (topS 35), defScope (topS 35), [], []⟩,
  ⟨("_law_locks", none), "_law_locks", "_law_locks", defArgs (topS 36), defBody (topS 36), defScope (topS 36), [], []⟩,
  ⟨("_law_lengths", none), "_law_lengths", "_law_lengths", defArgs (topS 37), defBody (topS 37), defScope (topS 37), [], []⟩,
  ⟨("law", none), "law", "law", defArgs (topS 38), defBody (topS 38), defScope (topS 38), [], []⟩]
def fa : List He.Fa := [.glo "is_whole", .glo "is_between", .glo "check_between", .glo "FIELDS", .int "NAME" 0, .int "LONGEST" 1, .int "SECTIONS" 5, .glo "LEAST_NUMBERS", .glo "GREATEST_NUMBERS", .int "MAX_LETTERS" 8, .int "MAX_SECTIONS" 8, .glo "is_name", .glo "_is_section", .glo "_are_sections", .glo "_are_numbers", .glo "is_task", .glo "check_task", .glo "_built_task", .glo "make_task", .glo "lock_inside", .glo "section_lengths", .glo "_law_stream", .glo "_law_draw", .glo "_law_pick", .glo "_law_mixed", .glo "_law_names", .glo "_law_sections", .glo "_law_some", .glo "_law_line", .glo "_law_locks", .glo "_law_lengths", .glo "law", .free "len", .free "int", .free "abs", .free "max", .free "list", .free "range", .free "tuple", .free "enumerate", .free "str", .free "bool", .free "isinstance", .free "all", .free "zip", .free "sorted", .free "dict", .free "set", .free "repr", .free "min", .free "sum", .free "any"]
def tp (K : PySem.W.Frag) : Bool := He.tupB K "FIELDS" [.str "name", .str "longest", .str "gap", .str "deadline", .str "room", .str "sections"] && He.tupB K "LEAST_NUMBERS" [.int 1, .int 1, .int 1, .int 0] && He.tupB K "GREATEST_NUMBERS" [.int 100, .int 1000, .int 20000, .int 1000000]
def loose0 : List Str := ["HoldError", "InvalidTask", "InvalidNumber", "is_whole", "is_between", "check_between", "FIELDS", "NAME", "LONGEST", "SECTIONS", "LEAST_NUMBERS", "GREATEST_NUMBERS", "MAX_LETTERS", "MAX_SECTIONS", "is_name", "_is_section", "_are_sections", "_are_numbers", "is_task", "check_task"]
def loose1 : List Str := ["_built_task", "make_task", "lock_inside", "section_lengths", "_law_stream", "_law_draw", "_law_pick", "_law_mixed", "_law_names", "_law_sections", "_law_some", "_law_line", "_law_locks", "_law_lengths"]
abbrev loose : List Str := loose0 ++ loose1
abbrev lawAt : Nat := 38
abbrev R : PySem.W.OpenRow := PySem.W.OpenLaw.row PySem.Challenge.rw_holdlevels_k02_sections_and_locks
abbrev hk : PySem.W.Hook := He.hookX 4 fa fn [] [] tp
def ob (s : PySem.W.SharedT) : He.AlX := He.obsX 4 fa fn [] [] tp (HandSHeadRun.getT s)
theorem ob_eq (s : PySem.W.SharedT) : ob s = hk.obs s.abs := He.obsX_eq (HandSHeadRun.getT_eq s)
set_option maxHeartbeats 0 in
theorem run (w : World) : HandSHeadRun.RunEq R (PySem.W.view R.prog [lawAt]) hk ob 1700 loose w := by
  intro os
  kernel_rfl
end Hd

set_option Elab.async false
set_option linter.all false
set_option maxRecDepth 100000
set_option maxHeartbeats 4000000
namespace Gd
open PySem PySem.Spec PyProof.Rows L2
/-- a law's end over a head by facts, its def's promise asked where no guard runs -/
theorem walk_gE {l : PySem.W.OpenLaw} {n k : Nat} {q : Program} {loose : List Str} {XP : (Str → Option Value) → Heap → Prop} {YP : World → Heap → Prop} {d : DefRec} {x : Str}
    (hn : l.most = some n) (hn2 : n ≤ sizeLine) (hdf : d.params.defaults = []) (hr : Rm k callerA)
    (F : ∀ (w : World) (mg : Str → Option Value) (fa : Addr) (h : Heap), YP w h → h.Ns mainGlobals mg → mg d.name = some (.ref fa) →
      ∃ (K : PySem.W.Frag) (fd : FuncData) (sp : Sp), K.In h ∧ (∀ (s : Shared) (u : Value), BindsTo s fd ⟨[u], []⟩ [(x, u)]) ∧
        (∀ (H : Hp) (a : Addr) (ns : List Int), ns.length ≤ n → Only H → SqL K H a (ns.map V.int) → sp [.ref a] H (fun v _ => v = .bl true) E0) ∧
        ∀ base : Heap, K.In base → base.Ns mainGlobals mg → Gn l.prog w K mg base k fa fd [x] sp) :
    PySem.W.WalkO q loose XP YP l.row.toRowW d [] (fun f vs => PySem.call f vs) := by
  refine Att.attach_call hn hdf (fun w s₀ s₁ mg mb fa o pm cd doc a vs ns G Y ho hd hcd hmg hobj hints hlen hgens => ?_)
  obtain ⟨K, fd, sp, KX, hb, hsp, hF⟩ := F w mg fa _ Y G.T.g hmg
  exact law_g KX G.T.g G.T.b G.T.builtins G.T.nolimit hgens hobj hints (Nat.le_trans hlen hn2) hr hF hb (fun H hO hS => hsp H a ns hlen hO hS)
end Gd
namespace Hd
open PySem PySem.Spec PyProof.Rows L2 Gd Pre
theorem fun_of {K : PySem.W.Frag} {x q : Str} {st : Stmt} {f : Addr} {fd : FuncData} (F : FunD K x q (defArgs st) (defBody st) (defScope st) [] [] f fd) : Fun K x q st f fd := by
  obtain ⟨oc, od, dV, kV, doc, pm, an, cdv, ct, osl, e, lk, hcd, hD, _⟩ := F.ex
  rcases hD with ⟨_, rfl⟩ | ⟨z, _⟩
  · exact ⟨⟨oc, od, kV, doc, pm, an, cdv, ct, osl, e, lk, hcd⟩, F.kp⟩
  · exact absurd rfl z
section
variable {P : Program} {w : World} {K : PySem.W.Frag} {mg : Str → Option Value} {base : Heap} {x q : Str} {st : Stmt} {f : Addr} {fd : FuncData} {ps : List Str} {k : Nat} {sp : Sp}
/-- a def of the top, its promise tied to its name -/
theorem cal_of (F : FunD K x q (defArgs st) (defBody st) (defScope st) [] [] f fd) (m : mg x = some (.ref f)) (ok : Fun K x q st f fd → FnOk P w K mg base CX0 k f fd ps sp)
    (b : ∀ (kV doc pm : Value) (an : Option Addr) (cdv ct : Value) (us : List Value), us.length = ps.length → bindArgs (PySem.W.fnOf x q (defArgs st) (defBody st) (defScope st) .none kV doc pm an cdv ct) ⟨us, []⟩ = pure (ps.zip us)) :
    Cal P w K mg base x k ps sp := ⟨f, fd, ok (fun_of F), m, F.kp, F.bindsN b⟩
end
theorem facts {P : Program} {w : World} {K : PySem.W.Frag} {h : Heap} {mg : Str → Option Value} {f : Addr} (X : K.In h) (G : h.Ns mainGlobals mg) (hfa : mg ("law" : Str) = some (.ref f)) (cd : He.SaysD fa fn K) (ht : tp K = true) :
    ∃ fd : FuncData, (∀ (s : Shared) (v : Value), BindsTo s fd ⟨[v], []⟩ [("script", v)]) ∧ ∀ base : Heap, Gn P w K mg base 8 f fd ["script"] (spLaw K) := by
  obtain ⟨fd_is_whole, F_is_whole⟩ := cd.def_ 0 rfl
  have m_is_whole := He.glo_ok X G (cd.fact 0 (f := .glo "is_whole") rfl)
  obtain ⟨fd_is_between, F_is_between⟩ := cd.def_ 1 rfl
  have m_is_between := He.glo_ok X G (cd.fact 1 (f := .glo "is_between") rfl)
  obtain ⟨fd_check_between, F_check_between⟩ := cd.def_ 2 rfl
  have m_check_between := He.glo_ok X G (cd.fact 2 (f := .glo "check_between") rfl)
  have m_FIELDS := He.glo_ok X G (cd.fact 3 (f := .glo "FIELDS") rfl)
  have k_NAME : Kst mg "NAME" (.int 0) := (He.int_ok X G (cd.fact 4 (f := .int "NAME" 0) rfl)).elim fun t h => ⟨_, h, t, rfl⟩
  have k_LONGEST : Kst mg "LONGEST" (.int 1) := (He.int_ok X G (cd.fact 5 (f := .int "LONGEST" 1) rfl)).elim fun t h => ⟨_, h, t, rfl⟩
  have k_SECTIONS : Kst mg "SECTIONS" (.int 5) := (He.int_ok X G (cd.fact 6 (f := .int "SECTIONS" 5) rfl)).elim fun t h => ⟨_, h, t, rfl⟩
  have m_LEAST_NUMBERS := He.glo_ok X G (cd.fact 7 (f := .glo "LEAST_NUMBERS") rfl)
  have m_GREATEST_NUMBERS := He.glo_ok X G (cd.fact 8 (f := .glo "GREATEST_NUMBERS") rfl)
  have k_MAX_LETTERS : Kst mg "MAX_LETTERS" (.int 8) := (He.int_ok X G (cd.fact 9 (f := .int "MAX_LETTERS" 8) rfl)).elim fun t h => ⟨_, h, t, rfl⟩
  have k_MAX_SECTIONS : Kst mg "MAX_SECTIONS" (.int 8) := (He.int_ok X G (cd.fact 10 (f := .int "MAX_SECTIONS" 8) rfl)).elim fun t h => ⟨_, h, t, rfl⟩
  obtain ⟨fd_is_name, F_is_name⟩ := cd.def_ 3 rfl
  have m_is_name := He.glo_ok X G (cd.fact 11 (f := .glo "is_name") rfl)
  obtain ⟨fd__is_section, F__is_section⟩ := cd.def_ 4 rfl
  have m__is_section := He.glo_ok X G (cd.fact 12 (f := .glo "_is_section") rfl)
  obtain ⟨fd__are_sections, F__are_sections⟩ := cd.def_ 5 rfl
  have m__are_sections := He.glo_ok X G (cd.fact 13 (f := .glo "_are_sections") rfl)
  obtain ⟨fd__are_numbers, F__are_numbers⟩ := cd.def_ 6 rfl
  have m__are_numbers := He.glo_ok X G (cd.fact 14 (f := .glo "_are_numbers") rfl)
  obtain ⟨fd_is_task, F_is_task⟩ := cd.def_ 7 rfl
  have m_is_task := He.glo_ok X G (cd.fact 15 (f := .glo "is_task") rfl)
  obtain ⟨fd_check_task, F_check_task⟩ := cd.def_ 8 rfl
  have m_check_task := He.glo_ok X G (cd.fact 16 (f := .glo "check_task") rfl)
  obtain ⟨fd__built_task, F__built_task⟩ := cd.def_ 9 rfl
  have m__built_task := He.glo_ok X G (cd.fact 17 (f := .glo "_built_task") rfl)
  obtain ⟨fd_make_task, F_make_task⟩ := cd.def_ 10 rfl
  have m_make_task := He.glo_ok X G (cd.fact 18 (f := .glo "make_task") rfl)
  obtain ⟨fd_lock_inside, F_lock_inside⟩ := cd.def_ 11 rfl
  have m_lock_inside := He.glo_ok X G (cd.fact 19 (f := .glo "lock_inside") rfl)
  obtain ⟨fd_section_lengths, F_section_lengths⟩ := cd.def_ 12 rfl
  have m_section_lengths := He.glo_ok X G (cd.fact 20 (f := .glo "section_lengths") rfl)
  obtain ⟨fd__law_stream, F__law_stream⟩ := cd.def_ 13 rfl
  have m__law_stream := He.glo_ok X G (cd.fact 21 (f := .glo "_law_stream") rfl)
  obtain ⟨fd__law_draw, F__law_draw⟩ := cd.def_ 14 rfl
  have m__law_draw := He.glo_ok X G (cd.fact 22 (f := .glo "_law_draw") rfl)
  obtain ⟨fd__law_pick, F__law_pick⟩ := cd.def_ 15 rfl
  have m__law_pick := He.glo_ok X G (cd.fact 23 (f := .glo "_law_pick") rfl)
  obtain ⟨fd__law_mixed, F__law_mixed⟩ := cd.def_ 16 rfl
  have m__law_mixed := He.glo_ok X G (cd.fact 24 (f := .glo "_law_mixed") rfl)
  obtain ⟨fd__law_names, F__law_names⟩ := cd.def_ 17 rfl
  have m__law_names := He.glo_ok X G (cd.fact 25 (f := .glo "_law_names") rfl)
  obtain ⟨fd__law_sections, F__law_sections⟩ := cd.def_ 18 rfl
  have m__law_sections := He.glo_ok X G (cd.fact 26 (f := .glo "_law_sections") rfl)
  obtain ⟨fd__law_some, F__law_some⟩ := cd.def_ 19 rfl
  have m__law_some := He.glo_ok X G (cd.fact 27 (f := .glo "_law_some") rfl)
  obtain ⟨fd__law_line, F__law_line⟩ := cd.def_ 20 rfl
  have m__law_line := He.glo_ok X G (cd.fact 28 (f := .glo "_law_line") rfl)
  obtain ⟨fd__law_locks, F__law_locks⟩ := cd.def_ 21 rfl
  have m__law_locks := He.glo_ok X G (cd.fact 29 (f := .glo "_law_locks") rfl)
  obtain ⟨fd__law_lengths, F__law_lengths⟩ := cd.def_ 22 rfl
  have m__law_lengths := He.glo_ok X G (cd.fact 30 (f := .glo "_law_lengths") rfl)
  obtain ⟨fd_law, F_law⟩ := cd.def_ 23 rfl
  have m_law := He.glo_ok X G (cd.fact 31 (f := .glo "law") rfl)
  have t_FIELDS : Ktp K mg "FIELDS" _ := ⟨_, m_FIELDS, He.tupB_ok (Bool.and_eq_true_iff.mp (Bool.and_eq_true_iff.mp ht).1).1⟩
  have t_LEAST_NUMBERS : Ktp K mg "LEAST_NUMBERS" _ := ⟨_, m_LEAST_NUMBERS, He.tupB_ok (Bool.and_eq_true_iff.mp (Bool.and_eq_true_iff.mp ht).1).2⟩
  have t_GREATEST_NUMBERS : Ktp K mg "GREATEST_NUMBERS" _ := ⟨_, m_GREATEST_NUMBERS, He.tupB_ok (Bool.and_eq_true_iff.mp ht).2⟩
  have B : Bts mg := { len := He.free_ok X G (cd.fact 32 (f := .free "len") rfl), int := He.free_ok X G (cd.fact 33 (f := .free "int") rfl), abs := He.free_ok X G (cd.fact 34 (f := .free "abs") rfl), max := He.free_ok X G (cd.fact 35 (f := .free "max") rfl), list := He.free_ok X G (cd.fact 36 (f := .free "list") rfl), range := He.free_ok X G (cd.fact 37 (f := .free "range") rfl), tuple := He.free_ok X G (cd.fact 38 (f := .free "tuple") rfl), enumerate := He.free_ok X G (cd.fact 39 (f := .free "enumerate") rfl), str := He.free_ok X G (cd.fact 40 (f := .free "str") rfl), bool := He.free_ok X G (cd.fact 41 (f := .free "bool") rfl), isinstance := He.free_ok X G (cd.fact 42 (f := .free "isinstance") rfl), all := He.free_ok X G (cd.fact 43 (f := .free "all") rfl), zip := He.free_ok X G (cd.fact 44 (f := .free "zip") rfl), sorted := He.free_ok X G (cd.fact 45 (f := .free "sorted") rfl), dict := He.free_ok X G (cd.fact 46 (f := .free "dict") rfl), set := He.free_ok X G (cd.fact 47 (f := .free "set") rfl), repr := He.free_ok X G (cd.fact 48 (f := .free "repr") rfl), min := He.free_ok X G (cd.fact 49 (f := .free "min") rfl), sum := He.free_ok X G (cd.fact 50 (f := .free "sum") rfl), any := He.free_ok X G (cd.fact 51 (f := .free "any") rfl) }
  have e := hfa.symm.trans m_law
  cases e
  refine ⟨fd_law, fun s v => FunD.bindsA (ps := ["script"]) F_law (fun _ _ _ _ _ _ us hl => match us, hl with | [_], _ => rfl) s [v] rfl, fun base => ?_⟩
  have c_is_whole : Cal P w K mg base "is_whole" 1 ["value"] spWhole := cal_of (st := st_is_whole) F_is_whole m_is_whole (fun F => ok_whole F B) (fun _ _ _ _ _ _ us hl => match us, hl with | [_], _ => rfl)
  have c_is_between : Cal P w K mg base "is_between" 2 ["value", "least", "most"] spBetween := cal_of (st := st_is_between) F_is_between m_is_between (fun F => ok_between F c_is_whole) (fun _ _ _ _ _ _ us hl => match us, hl with | [_, _, _], _ => rfl)
  have c_check_between : Cal P w K mg base "check_between" 3 ["value", "least", "most"] spCheck := cal_of (st := st_check_between) F_check_between m_check_between (fun F => ok_check F c_is_between) (fun _ _ _ _ _ _ us hl => match us, hl with | [_, _, _], _ => rfl)
  have c_is_name : Cal P w K mg base "is_name" 1 ["value"] spName := cal_of (st := st_is_name) F_is_name m_is_name (fun F => ok_name F B k_MAX_LETTERS) (fun _ _ _ _ _ _ us hl => match us, hl with | [_], _ => rfl)
  have c__is_section : Cal P w K mg base "_is_section" 2 ["value"] (spSection K) := cal_of (st := st__is_section) F__is_section m__is_section (fun F => ok_section F B c_is_whole c_is_name) (fun _ _ _ _ _ _ us hl => match us, hl with | [_], _ => rfl)
  have c__are_sections : Cal P w K mg base "_are_sections" 3 ["value", "longest"] (spSects K) := cal_of (st := st__are_sections) F__are_sections m__are_sections (fun F => ok_sects F B k_MAX_SECTIONS c__is_section) (fun _ _ _ _ _ _ us hl => match us, hl with | [_, _], _ => rfl)
  have c__are_numbers : Cal P w K mg base "_are_numbers" 3 ["value"] (spNums K) := cal_of (st := st__are_numbers) F__are_numbers m__are_numbers (fun F => ok_nums F B t_LEAST_NUMBERS t_GREATEST_NUMBERS c_is_between) (fun _ _ _ _ _ _ us hl => match us, hl with | [_], _ => rfl)
  have c_is_task : Cal P w K mg base "is_task" 4 ["value"] (spTask K) := cal_of (st := st_is_task) F_is_task m_is_task (fun F => ok_task F B t_FIELDS k_NAME k_LONGEST k_SECTIONS c_is_name c__are_numbers c__are_sections) (fun _ _ _ _ _ _ us hl => match us, hl with | [_], _ => rfl)
  have c_check_task : Cal P w K mg base "check_task" 5 ["task"] (spCkTask K) := cal_of (st := st_check_task) F_check_task m_check_task (fun F => ok_ckTask F c_is_task) (fun _ _ _ _ _ _ us hl => match us, hl with | [_], _ => rfl)
  have c__built_task : Cal P w K mg base "_built_task" 6 ["name", "longest", "gap", "sections", "deadline", "room"] (spBuilt K) := cal_of (st := st__built_task) F__built_task m__built_task (fun F => ok_built F B c__is_section c_check_task) (fun _ _ _ _ _ _ us hl => match us, hl with | [_, _, _, _, _, _], _ => rfl)
  have c_make_task : CalR P w K mg base "make_task" 7 (spMake K) := ⟨_, m_make_task, F_make_task.kp, ok_make F_make_task c__built_task⟩
  have c_lock_inside : Cal P w K mg base "lock_inside" 6 ["task", "ran"] (spLock K) := cal_of (st := st_lock_inside) F_lock_inside m_lock_inside (fun F => ok_lock F B k_LONGEST k_SECTIONS c_check_task c_check_between) (fun _ _ _ _ _ _ us hl => match us, hl with | [_, _], _ => rfl)
  have c_section_lengths : Cal P w K mg base "section_lengths" 6 ["task"] (spLens K) := cal_of (st := st_section_lengths) F_section_lengths m_section_lengths (fun F => ok_lens F B k_SECTIONS c_check_task) (fun _ _ _ _ _ _ us hl => match us, hl with | [_], _ => rfl)
  have c__law_stream : Cal P w K mg base "_law_stream" 1 ["script", "at"] (spStream K) := cal_of (st := st__law_stream) F__law_stream m__law_stream (fun F => ok_stream F B) (fun _ _ _ _ _ _ us hl => match us, hl with | [_, _], _ => rfl)
  have c__law_draw : Cal P w K mg base "_law_draw" 1 ["stream", "high"] spDraw := cal_of (st := st__law_draw) F__law_draw m__law_draw (fun F => ok_draw F B) (fun _ _ _ _ _ _ us hl => match us, hl with | [_, _], _ => rfl)
  have c__law_pick : Cal P w K mg base "_law_pick" 2 ["stream", "items"] (spPick K) := cal_of (st := st__law_pick) F__law_pick m__law_pick (fun F => ok_pick F B c__law_draw) (fun _ _ _ _ _ _ us hl => match us, hl with | [_, _], _ => rfl)
  have c__law_mixed : Cal P w K mg base "_law_mixed" 2 ["stream", "items"] (spMixed K) := cal_of (st := st__law_mixed) F__law_mixed m__law_mixed (fun F => ok_mixed F B c__law_draw) (fun _ _ _ _ _ _ us hl => match us, hl with | [_, _], _ => rfl)
  have c__law_names : Cal P w K mg base "_law_names" 3 ["stream", "much"] (spNames K) := cal_of (st := st__law_names) F__law_names m__law_names (fun F => ok_names F B c__law_mixed) (fun _ _ _ _ _ _ us hl => match us, hl with | [_, _], _ => rfl)
  have c__law_sections : Cal P w K mg base "_law_sections" 3 ["stream", "high", "locks"] (spSections K) := cal_of (st := st__law_sections) F__law_sections m__law_sections (fun F => ok_sections F B c__law_draw c__law_pick) (fun _ _ _ _ _ _ us hl => match us, hl with | [_, _, _], _ => rfl)
  have c__law_some : Cal P w K mg base "_law_some" 4 ["stream", "most"] (spSome K) := cal_of (st := st__law_some) F__law_some m__law_some (fun F => ok_some F B c__law_draw c__law_pick c__law_names c__law_sections) (fun _ _ _ _ _ _ us hl => match us, hl with | [_, _], _ => rfl)
  have c__law_line : Cal P w K mg base "_law_line" 5 ["stream"] (spLine K) := cal_of (st := st__law_line) F__law_line m__law_line (fun F => ok_line F B c__law_some c__law_pick) (fun _ _ _ _ _ _ us hl => match us, hl with | [_], _ => rfl)
  have c__law_locks : Cal P w K mg base "_law_locks" 1 ["line"] (spLocks K) := cal_of (st := st__law_locks) F__law_locks m__law_locks (fun F => ok_locks F B) (fun _ _ _ _ _ _ us hl => match us, hl with | [_], _ => rfl)
  have c__law_lengths : Cal P w K mg base "_law_lengths" 1 ["line"] (spLengths K) := cal_of (st := st__law_lengths) F__law_lengths m__law_lengths (fun F => ok_lengths F B) (fun _ _ _ _ _ _ us hl => match us, hl with | [_], _ => rfl)
  exact ok_law (fun_of (st := st_law) F_law) B c__law_stream c__law_line c__law_locks c__law_lengths c_lock_inside c_section_lengths c_make_task
end Hd
open PySem PySem.W PySem.Calls PyProof.Rows
theorem PySem.Challenge.cw_holdlevels_k02_sections_and_locks_holds : PySem.Challenge.rw_holdlevels_k02_sections_and_locks.Holds := by
  w_on; o_law
  refine HandSHeadRun.head_any (r := OpenLaw.row PySem.Challenge.rw_holdlevels_k02_sections_and_locks) (q := view (OpenLaw.row PySem.Challenge.rw_holdlevels_k02_sections_and_locks).prog [Hd.lawAt]) (H := Hd.hk) (ob := Hd.ob) (M := 1700) (loose := Hd.loose) (d := HandSHeadRun.topDef (OpenLaw.row PySem.Challenge.rw_holdlevels_k02_sections_and_locks).prog Hd.lawAt) (kwd := []) Hd.ob_eq
    (by kernel_rfl) (fun s => by kernel_rfl) Hd.run (by kernel_rfl) (by kernel_rfl) (by kernel_rfl) (by rfl) (by first | assumption | decide +kernel) (by decide +kernel) ⟨rfl, rfl, rfl, rfl, rfl, by decide +kernel⟩ ?hw ?hc
  case hw => w_witness2
  case hc =>
    refine Gd.walk_gE (l := PySem.Challenge.rw_holdlevels_k02_sections_and_locks) (n := 63) (k := 8) (x := "script") rfl (by decide) (by kernel_rfl) ⟨⟨rfl, by decide, by decide⟩, rfl⟩ ?F
    intro w mg fa h Y G hmg0
    obtain ⟨K, KX, c⟩ := Y
    have hmg : mg ("law" : PySem.Str) = some (.ref fa) := by
      have e : (HandSHeadRun.topDef (OpenLaw.row PySem.Challenge.rw_holdlevels_k02_sections_and_locks).prog Hd.lawAt).name = ("law" : PySem.Str) := by kernel_rfl
      rw [← e]
      exact hmg0
    have cd : He.SaysD Hd.fa Hd.fn K := congrArg Prod.fst c.t
    obtain ⟨fd, hb, hF⟩ := Hd.facts (P := (PySem.Challenge.rw_holdlevels_k02_sections_and_locks).prog) (w := w) KX G hmg cd c.more
    exact ⟨K, fd, Pre.spLaw K, KX, hb, fun H a ns hl _ hS => ⟨a, ns, rfl, hS, hl, fun _ => rfl⟩, fun base _ _ => hF base⟩
