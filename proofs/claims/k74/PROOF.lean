import PyProof.Rows.All
import Wide.All
import OpenK.AllK
import Wide.FinOn
import HandS.ForMost
import HandS.Wide
import HandS.IsInst
import HandS.DictComp
import HandS.Zip
import KE.GoesNew
import KE.GoesMore
import HandS.SortOrd
import HandS.SortRule
import HandS.SetFor
import HandS.More
import HandS.Star
import HandS.Defaults
import KE.GoesEnum
import HandS.Walk
import HandS.WordsExc
import HandS.TupAny
import HandS.Style
import HandS.TupMul
import HandS.Deep
import HandS.SortInts
import KE.KRevSl
import PyProof.ReprLen
import HandS.HeadHook1
import HandS.HeadHook2
import HandS.HeadHook4
import HandS.Property
import HandS.OwnEq
import OpenK.KMeth
import OpenK.KOps
import HandS.ClsMeth
import HandS.Gcd
import HandS.SetBool
import HandS.SetKeys
import HandS.HeadNt
import PySem.Challenge.RW_holdlevels_k74_harder_tasks_judged
import KE.KStateDown
import HandS.Head0
import HandS.Head1
import HandS.Head2
import HandS.Head3
import HandS.HeadEnd
set_option Elab.async false
set_option linter.all false
set_option maxRecDepth 100000
set_option maxHeartbeats 4000000
/-! own layer: defs whose caller has no running guard; repr of data; powers -/
namespace Gd
open PySem PySem.Spec PyProof.Rows L2

/-- room for k calls, and no built-in that watches for itself runs around -/
structure Rm (k : Nat) (A : Around) : Prop where
  rm : Room k A
  gd : A.guards = some []
theorem Rm.down {j k : Nat} {A : Around} (r : Rm k A) (h : j ≤ k) : Rm j A := ⟨r.rm.mono h, r.gd⟩
theorem Rm.body {k : Nat} {A : Around} (r : Rm (k + 1) A) (v : Env) : Rm k (A.deeper v) := ⟨r.rm.deeper v, r.gd⟩

/-- a def's promise, asked only where no guard runs around the call -/
structure Gn (pr : Program) (wo : World) (Kf : PySem.W.Frag) (glo : Str → Option Value) (bh : Heap) (kk : Nat) (ff : Addr) (fdt : FuncData) (prm : List Str) (prom : Sp) : Prop where
  lenOk : ∀ as G R X, prom as G R X → as.length = prm.length
  go : ∀ (A : Around) (out : List Env) (t : Shared) (G : Hp) (ar : Args) (us : List Value) (as : List V) (R : VK) (X : XK),
    Rm kk A → Env0 pr wo Kf glo bh A out t G → BindsTo t fdt ar (prm.zip us) → Vals as us → prom as G R X →
    codeAny (model pr wo) A (.call (.ref ff) ar) (CR CX0 out pr wo G t R X) t
theorem Gn.up {pr : Program} {wo : World} {Kf : PySem.W.Frag} {glo : Str → Option Value} {bh : Heap} {i j : Nat} {ff : Addr} {fdt : FuncData} {prm : List Str} {prom : Sp}
    (g : Gn pr wo Kf glo bh i ff fdt prm prom) (h : i ≤ j) : Gn pr wo Kf glo bh j ff fdt prm prom :=
  ⟨g.lenOk, fun A out t G ar us as R X hr => g.go A out t G ar us as R X (hr.down h)⟩

section
variable {pr : Program} {wo : World} {Kf : PySem.W.Frag} {glo : Str → Option Value} {bh : Heap}
theorem gn_of {nm ql : Str} {st : Stmt} {ff : Addr} {fdt : FuncData} {Ns ps : List Str} {k : Nat} {prom : Sp} (F : Fun Kf nm ql st ff fdt) (S : FnScope Ns ps (defScope st))
    (lenOk : ∀ as G R X, prom as G R X → as.length = ps.length)
    (bd : ∀ (cdv : Value) (A : Around) (out : List Env) (t : Shared) (G : Hp) (as : List V) (R : VK) (X : XK), Rm k (A.deeper (envOfC ql (defScope st) t.heap.objs.size ff cdv)) → prom as G R X →
      ∃ rd, PSs (cxOf CX0 pr wo Kf glo bh Ns ql (defScope st) ff cdv A out t G X).nox (defBody st) rd ∧ rd { nx := fun _ G' => R .non G', rt := R } (start Ns as) G) :
    Gn pr wo Kf glo bh (k + 1) ff fdt ps prom := by
  obtain ⟨oc, od, kV, doc, pm, an, cdv, ct, osl, rfl, lk, hcd⟩ := F.ex
  refine ⟨lenOk, fun A out t G ar us as R X hr e0 hb rv hp => ?_⟩
  have hlen := lenOk as G R X hp
  have kin : Kf.In t.heap := e0.mod.kin.keeps (fun b o e => And.left (e0.bs b o e))
  have nolim : t.heap.NoLimit := e0.mod.nolimit.keeps (fun b o e => And.left (e0.bs b o e))
  have cells : ∀ y ∈ ps.zip us, (defScope st).names.lookup y.1 = some .local ∨
      ((defScope st).names.lookup y.1 = some .cell ∧ ((cellsFrom (t.heap.objs.size + 1) (defScope st).names []).lookup y.1).isSome = true) := by
    rintro ⟨n, v⟩ hy
    rcases S.par n (List.of_mem_zip hy).1 with q | q
    · exact Or.inl q
    · exact Or.inr ⟨q, PySem.W.cellsFrom_some _ _ _ (Or.inl q)⟩
  refine codeAny_call_function hr.rm.depth (kin _ _ lk) rfl S.co S.gen rfl (PySem.W.codeRec_of kin hcd) (hb _ _ _ _ ?_)
  refine wpAny_newFunctionEnv_cells S.kind cells (fun env hee t1 hx => ?_)
  subst hee
  refine ⟨nolim.keeps hx.toInCall.keep, codeAny_func ?_⟩
  obtain ⟨rd, hrd, hq⟩ := bd cdv A out t G as R X (hr.body _) hp
  have J := inv_start (CX := CX0) (E := X) S hr.rm.hd e0 hlen rv hx
  refine wpAny_mono ((PSs.nox hrd).run [] t1 (start Ns as) G _ J hq) (fun fl t2 hfl => ?_) (fun e t2 he => he)
  cases fl with
  | ret u =>
    obtain ⟨v, _, G', J', rv', q⟩ := hfl
    exact ⟨v, G', J'.os, J'.bare, J'.base, J'.hok, rv', q⟩
  | next =>
    obtain ⟨_, G', J', q⟩ := hfl
    exact ⟨V.non, G', J'.os, J'.bare, J'.base, J'.hok, rfl, q⟩
  | brk => exact (show False from hfl.elim fun _ z => z.elim fun _ z => z.2).elim
  | cont => exact (show False from hfl.elim fun _ z => z.elim fun _ z => z.2).elim
end

section
variable {X : Cx} {k : Nat} {f : Addr} {fd : FuncData} {ps : List Str} {sp : Sp} {x : Str} {p pos : Pos} {e : Expr} {es : List Expr} {t : TA}
theorem run_g {pins : List (Addr × Obj)} {σ : L2.St} {H : Hp} {s : Shared} {Q : VK} {us : List Value} {vs : List V} (g : Gn X.prog X.w X.K X.mg X.base k f fd ps sp) (hr : Rm k X.A) (hb : Binds X.K fd ps [])
    (I : Inv X pins σ H s) (rv : Vals vs us) (h : sp vs H Q E0) : wpAny (model X.prog X.w) X.A (call (.ref f) us) (EP X pins σ Q) X.xe s := by
  have hl : us.length = ps.length := rv.length.symm.trans (g.lenOk _ _ _ _ h)
  have hb' := hb s us I.kIn (by rw [List.append_nil]; exact hl)
  rw [List.append_nil] at hb'
  refine wpAny_call (codeAny_mono (g.go X.A X.stack s H ⟨us, []⟩ us vs Q E0 hr I.env0 hb' rv h) (fun r s' hq => ?_))
  match r, hq with
  | .error _, hq => exact (show False from hq).elim
  | .ok (.ret _), hq => exact I.after hq
  | .ok .next, hq => exact (show False from hq).elim
  | .ok .brk, hq => exact (show False from hq).elim
  | .ok .cont, hq => exact (show False from hq).elim
/-- f(a, ..), the def's promise asked where no guard runs -/
theorem pe_g (g : Gn X.prog X.w X.K X.mg X.base k f fd ps sp) (hr : Rm k X.A) (hg : Gl X x) (hm : X.mg x = some (.ref f)) (hk : PySem.W.keepIn X.K (.ref f) = true) (hb : Binds X.K fd ps [])
    (ha : PA X (e :: es) t) (hdb : (x == ("__debug__" : Str)) = false := by decide) (hse : starEach (e :: es) X.env = (false, eval e X.env) :: starEach es X.env := by rfl)
    (hno : (backTo pos (starEach es X.env)).any (·.1) = false := by rfl) : PE X (.Call (.Name x p) (e :: es) [] pos) (tCall sp [] E0 t) := by
  refine ⟨fun pins s σ H Q I h => wpAny_Call_Name_kw (ld_glob I hg hm ?_ hdb)⟩
  refine PySem.W.callWith_K (h₀ := X.base) I.ok.mod.kin hk (thn (ha.run pos pins s σ H _ I h) (fun us s1 hz => ?_)) hse hno
  obtain ⟨vs, H1, I1, r, q⟩ := hz
  rw [List.append_nil] at q
  exact ⟨I1.kIn, run_g g hr hb I1 r q⟩
end

/-! ### the law's own call -/
section
variable {pr : Program} {wo : World} {Kf : PySem.W.Frag} {glo blt : Str → Option Value}
theorem law_g {k : Nat} {fa a : Addr} {fd : FuncData} {x : Str} {prom : Sp} {t : Shared} {vs : List Value} {ns : List Int}
    (kin : Kf.In t.heap) (hns : t.heap.Ns mainGlobals glo) (hb : t.heap.Ns builtinsNs blt) (hbb : ∀ y : Str, y ≠ "__name__" → blt y = bootBuiltins y) (nolim : t.heap.NoLimit) (hgn : t.gens = #[])
    (ha : t.heap.get? a = some { cls := .type "list", data := .seq vs.toArray }) (hi : IntsAre vs ns) (hl : ns.length ≤ sizeLine) (hr : Rm k callerA)
    (F : ∀ bh : Heap, Kf.In bh → bh.Ns mainGlobals glo → Gn pr wo Kf glo bh k fa fd [x] prom) (hbind : ∀ (s : Shared) (u : Value), BindsTo s fd ⟨[u], []⟩ [(x, u)])
    (hsp : ∀ G : Hp, Only G → SqL Kf G a (ns.map V.int) → prom [.ref a] G (fun v _ => v = .bl true) E0) :
    codeAny (model pr wo) callerA (.call (.ref fa) ⟨[.ref a], []⟩) (fun r s' => r = .ok (.ret (.bool true)) ∧ OldK t.heap s'.heap ∧ s'.os = t.os ∧ AllBare s'.gens) t := by
  have go : ∀ G : Hp, Only G → SqL Kf G a (ns.map V.int) → HOk pr wo G t.heap → (∀ b, G b ≠ none → b = a) → (G a ≠ none → Kf.lookup a = none) →
      codeAny (model pr wo) callerA (.call (.ref fa) ⟨[.ref a], []⟩) (fun r s' => r = .ok (.ret (.bool true)) ∧ OldK t.heap s'.heap ∧ s'.os = t.os ∧ AllBare s'.gens) t := by
    intro G only sq hok onlyA notK
    have un : ∀ b, b ≠ a → G b = none := fun b hb => Classical.byContradiction fun z => hb (onlyA b z)
    have dictNo : ∀ {b : Addr} {o : Obj} {es : Array DictEntry} {ep : Nat}, t.heap.get? b = some o → o.data = .dict es ep → G b = none := by
      intro b o es ep e d
      refine un b (fun z => ?_)
      subst z
      rw [ha] at e
      cases e
      exact nomatch (show Data.seq vs.toArray _ = Data.dict es ep from d)
    have hid : ∀ {b : Addr} {o : Obj}, t.heap.get? b = some o → G b = none → (hidT t.heap G).get? b = some o := hidT_get
    have nsH : ∀ {b : Addr} {m : Str → Option Value}, t.heap.Ns b m → (hidT t.heap G).Ns b m := by
      rintro b m ⟨o, es, ep, e, d, r⟩
      exact ⟨o, es, ep, hid e (dictNo e d), d, r⟩
    have kinH : Kf.In (hidT t.heap G) := by
      intro b o e
      refine hid (kin b o e) ?_
      cases q : G b with
      | none => rfl
      | some u =>
        have hne : G b ≠ none := by rw [q]; exact fun z => nomatch z
        have hba := onlyA b hne
        subst hba
        rw [notK hne] at e
        cases e
    obtain ⟨mc, l1, l2⟩ := nolim
    have md : Mod Kf glo (hidT t.heap G) := ⟨kinH, nsH hns, ⟨blt, nsH hb, hbb⟩, ⟨mc, nsH l1, l2⟩⟩
    have nil : ∀ b : Addr, b ∈ ([] : List Addr) → False := fun b z => nomatch z
    have e0 : Env0 pr wo Kf glo (hidT t.heap G) callerA [] t G :=
      ⟨rfl, md, fun b o e => of_hidT e, Nat.le_of_eq (hidT_size _ _), True.intro, fun b hb => (nil b hb).elim, hok, .of_eq hgn⟩
    refine codeAny_mono ((F _ kinH (nsH hns)).go callerA [] t G ⟨[.ref a], []⟩ [.ref a] [.ref a] _ _ hr e0 (hbind t (.ref a)) (.cons rfl .nil) (hsp G only sq)) (fun r s' h => ?_)
    match r, h with
    | .error _, h => exact (show False from h).elim
    | .ok .next, h => exact (show False from h).elim
    | .ok .brk, h => exact (show False from h).elim
    | .ok .cont, h => exact (show False from h).elim
    | .ok (.ret u), h =>
      obtain ⟨v, G', os, bare, ch, hok', rv, q⟩ := h
      cases (show v = V.bl true from q)
      cases (show u = Value.bool true from rv)
      refine ⟨rfl, OldK.of_keep (fun b o e => ?_), os, bare⟩
      rcases only b with z | ⟨ob, xs, z⟩
      · exact ch.keep b o e z (fun m => nil b m) (fun m => nil b m)
      · obtain ⟨e1, _⟩ := hok b _ z
        obtain ⟨e2, _⟩ := hok' b _ (ch.frzs b ob _ z)
        rw [e1] at e
        cases e
        exact e2
  have rv := vals_ints hi
  cases hk : Kf.lookup a with
  | some o =>
    have e := kin a o hk
    rw [ha] at e
    cases e
    refine go (fun _ => none) (fun _ => Or.inl rfl) (Or.inr ⟨_, vs.toArray, _, hk, rfl, rfl, rfl, ?_, ?_⟩) (fun b u z => nomatch z) (fun b z => (z rfl).elim) (fun z => (z rfl).elim)
    · rw [List.size_toArray, hi.length]; exact hl
    · simpa using rv
  | none =>
    have at_a : upd (fun _ => none) a (.frz { cls := .type "list", data := .seq vs.toArray } (.lst (ns.map V.int))) a = some (.frz { cls := .type "list", data := .seq vs.toArray } (.lst (ns.map V.int))) := upd_same
    refine go (upd (fun _ => none) a (.frz { cls := .type "list", data := .seq vs.toArray } (.lst (ns.map V.int)))) (fun b => ?_) (Or.inl (Or.inr ⟨_, at_a⟩)) (fun b u z => ?_) (fun b z => ?_) (fun _ => hk)
    · by_cases hba : b = a
      · subst hba; exact Or.inr ⟨_, _, at_a⟩
      · exact Or.inl (upd_ne hba)
    · by_cases hba : b = a
      · subst hba
        rw [at_a] at z
        cases z
        exact ⟨ha, by rw [List.length_map]; exact hl, vs, _, rv, ha⟩
      · rw [upd_ne hba] at z
        cases z
    · by_cases hba : b = a
      · exact hba
      · exact (z (upd_ne hba)).elim
end
theorem walk_g {l : PySem.W.OpenLaw} {n k : Nat} {q : Program} {loose : List Str} {XP : (Str → Option Value) → Heap → Prop} {YP : World → Heap → Prop} {d : DefRec} {K : Params → PySem.W.Frag} {sp : PySem.W.Frag → Sp} {x : Str}
    (hn : l.most = some n) (hn2 : n ≤ sizeLine) (hdf : d.params.defaults = []) (hr : Rm k callerA)
    (hY : ∀ (w : World) (h : Heap), YP w h → (K w.params).In h)
    (F : ∀ (w : World) (mg : Str → Option Value) (fa : Addr) (h : Heap), (K w.params).In h → h.Ns mainGlobals mg → mg d.name = some (.ref fa) →
      ∃ fd : FuncData, (∀ (s : Shared) (u : Value), BindsTo s fd ⟨[u], []⟩ [(x, u)]) ∧
        ∀ base : Heap, (K w.params).In base → base.Ns mainGlobals mg → Gn l.prog w (K w.params) mg base k fa fd [x] (sp (K w.params)))
    (hsp : ∀ (K : PySem.W.Frag) (H : Hp) (a : Addr) (ns : List Int), ns.length ≤ n → Only H → SqL K H a (ns.map V.int) → sp K [.ref a] H (fun v _ => v = .bl true) E0) :
    PySem.W.WalkO q loose XP YP l.row.toRowW d [] (fun f vs => PySem.call f vs) := by
  refine Att.attach_call hn hdf (fun w s₀ s₁ mg mb fa o pm cd doc a vs ns G Y ho hd hcd hmg hobj hints hlen hgens => ?_)
  obtain ⟨fd, hb, hF⟩ := F w mg fa _ (hY w _ Y) G.T.g hmg
  exact law_g (hY w _ Y) G.T.g G.T.b G.T.builtins G.T.nolimit hgens hobj hints (Nat.le_trans hlen hn2) hr hF hb (fun H hO hS => hsp _ H a ns hlen hO hS)
end Gd

set_option Elab.async false
set_option linter.all false
set_option maxRecDepth 100000
set_option maxHeartbeats 4000000
namespace Gd
open PySem PySem.Spec PyProof.Rows L2

/-! ### data: small leaves -/
mutual
def leafOk : PyData → Bool
  | .none | .bool _ => true
  | .int i => decide (i.natAbs < 10 ^ 30)
  | .str x => x.cps.toList.all fun c => decide (c < 16 ^ 8)
  | .list xs | .tuple xs => leafAll xs
  | .dict kvs => leafKv kvs
def leafAll : List PyData → Bool
  | [] => true
  | x :: xs => leafOk x && leafAll xs
def leafKv : List (PyData × PyData) → Bool
  | [] => true
  | (k, v) :: r => leafOk k && leafOk v && leafKv r
end
theorem int_short {i : Int} (h : i.natAbs < 10 ^ 30) : i.natAbs.log2 < 1920 := by
  by_cases z : i.natAbs = 0
  · rw [z]; decide
  · exact (Nat.log2_lt z).mpr (Nat.lt_of_lt_of_le h (by decide +kernel))
theorem int_text {i : Int} (h : i.natAbs < 10 ^ 30) : (PyData.shown (.int i)).length ≤ 40 := by
  have e : PyData.shown (.int i) = Str.ofString (toString i) := rfl
  rw [e]
  have h2 : (toString i).length ≤ 31 := int_text_length_le10 (by decide) h
  rw [PySem.ofString_length]
  omega
mutual
theorem leafOk_show : ∀ d : PyData, leafOk d = true → d.showable = true ∧ d.leavesShort 40 = true
  | .none, _ => ⟨rfl, rfl⟩
  | .bool _, _ => ⟨rfl, rfl⟩
  | .int i, h => by
    have h' : i.natAbs < 10 ^ 30 := by simpa [leafOk] using h
    exact ⟨by simpa [PyData.showable] using int_short h', by simpa [PyData.leavesShort] using int_text h'⟩
  | .str x, h => ⟨rfl, by simpa [PyData.leavesShort, leafOk] using h⟩
  | .list xs, h => by
    have := leafAll_show xs (by simpa [leafOk] using h)
    exact ⟨by simpa [PyData.showable] using this.1, by simpa [PyData.leavesShort] using this.2⟩
  | .tuple xs, h => by
    have := leafAll_show xs (by simpa [leafOk] using h)
    exact ⟨by simpa [PyData.showable] using this.1, by simpa [PyData.leavesShort] using this.2⟩
  | .dict kvs, h => by
    have := leafKv_show kvs (by simpa [leafOk] using h)
    exact ⟨by simpa [PyData.showable] using this.1, by simpa [PyData.leavesShort] using this.2⟩
theorem leafAll_show : ∀ ds : List PyData, leafAll ds = true → PyData.showableAll ds = true ∧ PyData.leavesShortAll 40 ds = true
  | [], _ => ⟨rfl, rfl⟩
  | d :: ds, h => by
    simp only [leafAll, Bool.and_eq_true] at h
    have h1 := leafOk_show d h.1
    have h2 := leafAll_show ds h.2
    exact ⟨by simp [PyData.showableAll, h1.1, h2.1], by simp [PyData.leavesShortAll, h1.2, h2.2]⟩
theorem leafKv_show : ∀ ds : List (PyData × PyData), leafKv ds = true → PyData.showableKv ds = true ∧ PyData.leavesShortKv 40 ds = true
  | [], _ => ⟨rfl, rfl⟩
  | (k, v) :: ds, h => by
    simp only [leafKv, Bool.and_eq_true] at h
    have h1 := leafOk_show k h.1.1
    have h2 := leafOk_show v h.1.2
    have h3 := leafKv_show ds h.2
    exact ⟨by simp [PyData.showableKv, h1.1, h2.1, h3.1], by simp [PyData.leavesShortKv, h1.2, h2.2, h3.2]⟩
end
theorem leafAll_of {ds : List PyData} (h : ∀ d ∈ ds, leafOk d = true) : leafAll ds = true := by
  induction ds with
  | nil => rfl
  | cons d ds ih => simp only [leafAll, Bool.and_eq_true]; exact ⟨h d List.mem_cons_self, ih fun x hx => h x (List.mem_cons_of_mem _ hx)⟩
theorem weightAll_le {c : Nat} {ds : List PyData} (h : ∀ d ∈ ds, d.weight ≤ c) : PyData.weightAll ds ≤ (c + 1) * ds.length := by
  induction ds with
  | nil => simp [PyData.weightAll]
  | cons d ds ih =>
    have h1 := h d List.mem_cons_self
    have h2 := ih fun x hx => h x (List.mem_cons_of_mem _ hx)
    simp only [PyData.weightAll, List.length_cons]
    rw [Nat.mul_add, Nat.mul_one]
    omega
theorem depthAll_le {c : Nat} {ds : List PyData} (h : ∀ d ∈ ds, d.depth ≤ c) : PyData.depthAll ds ≤ c := by
  induction ds with
  | nil => simp [PyData.depthAll]
  | cons d ds ih =>
    have h1 := h d List.mem_cons_self
    have h2 := ih fun x hx => h x (List.mem_cons_of_mem _ hx)
    simp only [PyData.depthAll]
    omega
theorem log_small {i : Int} (h : i.natAbs < 10 ^ 30) : PyData.weight (.int i) ≤ 101 := by
  unfold PyData.weight
  split
  · omega
  · rename_i hz
    have hz' : i.natAbs ≠ 0 := by simpa using hz
    have : i.natAbs.log2 < 100 := (Nat.log2_lt hz').mpr (Nat.lt_of_lt_of_le h (by decide +kernel))
    omega
/-- what repr shows without trouble -/
structure Fine (d : PyData) : Prop where
  leaf : leafOk d = true
  wt : d.weight ≤ 100000
  dp : d.depth ≤ 60
theorem Fine.len {d : PyData} (f : Fine d) : d.shown.length ≤ sizeLine := by
  have := PyData.shown_le 40 (by decide) d (leafOk_show d f.leaf).2
  have h := f.wt
  have : d.shown.length ≤ 42 * 100000 + 40 := by omega
  exact Nat.le_trans this (by decide)

/-! ### values that are data, a dict at the outside too -/
mutual
theorem dp_nodict {K : PySem.W.Frag} {H : Hp} : ∀ (d : PyData) (v : V), Dp K H v d → d.hasDict = false
  | .none, _, _ => rfl
  | .bool _, _, _ => rfl
  | .int _, _, _ => rfl
  | .str _, _, _ => rfl
  | .list ds, _, h => by
    cases h with
    | lst hs ha => simpa [PyData.hasDict] using dpAll_nodict ds _ ha
  | .tuple ds, _, h => by
    cases h with
    | tup hs ha => simpa [PyData.hasDict] using dpAll_nodict ds _ ha
  | .dict _, _, h => by cases h
theorem dpAll_nodict {K : PySem.W.Frag} {H : Hp} : ∀ (ds : List PyData) (vs : List V), DpAll K H vs ds → PyData.hasDictAll ds = false
  | [], _, _ => rfl
  | d :: ds, _, h => by
    cases h with
    | cons h1 h2 => simp [PyData.hasDictAll, dp_nodict d _ h1, dpAll_nodict ds _ h2]
end
def kD : Key → PyData
  | .inl i => .int i
  | .inr x => .str x
/-- the dict at a holds data -/
def DkAt (K : PySem.W.Frag) (H : Hp) (v : V) (d : PyData) : Prop :=
  ∃ a kvs ds, v = .ref a ∧ Rd H a (.dK kvs) ∧ DpAll K H (kvs.map (·.2)) ds ∧ d = .dict ((kvs.map fun p => kD p.1).zip ds)
def Dd (K : PySem.W.Frag) (H : Hp) (v : V) (d : PyData) : Prop := Dp K H v d ∨ DkAt K H v d

theorem dpAll_len {K : PySem.W.Frag} {H : Hp} : ∀ {vs : List V} {ds : List PyData}, DpAll K H vs ds → vs.length = ds.length
  | _, _, .nil => rfl
  | _, _, .cons _ h => by simp [dpAll_len h]
theorem kd_reads {h : Heap} {P : Program} {w : World} : ∀ {kvs : List (Key × V)} {vs : List (Key × Value)} {es : List DictEntry}, KV kvs vs → Pairs (mixKind P w) es vs →
    ReadsAll h (es.map (·.key)) (kvs.map fun p => kD p.1) [] ∧ Vals (kvs.map (·.2)) (es.map (·.val))
  | _, _, _, .nil, .nil => ⟨.nil, .nil⟩
  | _, _, _, .cons (a := p) r rs, .cons (e := e) hk hv hs => by
    obtain ⟨h1, h2⟩ := kd_reads (h := h) rs hs
    obtain ⟨r1, r2⟩ := r
    refine ⟨?_, ?_⟩
    · have : Reads h e.key (kD p.1) [] := by
        rcases keyIs_shape (show keyIs _ e.key = true from hk) with ⟨i, t, e1, e2⟩ | ⟨x, t, e1, e2⟩
        · rw [r1, e1, e2]; exact .int i t
        · rw [r1, e1, e2]; exact .str x t
      exact ReadsAll.cons (as := []) (bs := []) this h1
    · exact .cons (show L2.RelV p.2 e.val by rw [hv]; exact r2) h2
section
variable {X : Cx} {pins : List (Addr × Obj)} {σ : L2.St} {H : Hp} {s : Shared}
mutual
/-- no address of a list among what data without dicts reads is wanted: only that there is none of the registry where a dict stands outside -/
theorem dp_reads_off (I : Inv X pins σ H s) (hreg : ∀ o, s.heap.get? sysModules = some o → o.cls ≠ .type "list") : ∀ (d : PyData) (v : V) (u : Value), Dp X.K H v d → RelV v u → ∃ as, Reads s.heap u d as ∧ sysModules ∉ as
  | .none, _, _, h, r => by cases h; cases r; exact ⟨_, .none, by simp⟩
  | .bool b, _, _, h, r => by cases h; cases r; exact ⟨_, .bool b, by simp⟩
  | .int i, _, _, h, r => by cases h; obtain ⟨t, rfl⟩ := r; exact ⟨_, .int i t, by simp⟩
  | .str x, _, _, h, r => by cases h; obtain ⟨t, rfl⟩ := r; exact ⟨_, .str x t, by simp⟩
  | .list ds, _, _, h, r => by
    cases h with
    | lst hs ha =>
      cases r
      obtain ⟨its, rv, ⟨o, n, ho, hc, _, hd⟩, _⟩ := I.list hs
      obtain ⟨as, hr, hn⟩ := dpAll_reads_off I hreg ds _ its ha rv
      refine ⟨_, .list ho hc hd hr, fun z => ?_⟩
      rcases List.mem_cons.mp z with z | z
      · subst z; exact hreg _ ho hc
      · exact hn z
  | .tuple ds, _, _, h, r => by
    cases h with
    | tup hs ha =>
      cases r
      obtain ⟨its, rv, ⟨o, ho, hc, n, hd⟩, _⟩ := I.tuple hs
      obtain ⟨as, hr, hn⟩ := dpAll_reads_off I hreg ds _ its ha rv
      exact ⟨_, .tuple ho hc hd hr, hn⟩
  | .dict _, _, _, h, _ => by cases h
theorem dpAll_reads_off (I : Inv X pins σ H s) (hreg : ∀ o, s.heap.get? sysModules = some o → o.cls ≠ .type "list") : ∀ (ds : List PyData) (vs : List V) (us : List Value), DpAll X.K H vs ds → Vals vs us → ∃ as, ReadsAll s.heap us ds as ∧ sysModules ∉ as
  | [], _, _, h, r => by cases h; cases r; exact ⟨_, .nil, by simp⟩
  | d :: ds, _, _, h, r => by
    cases h with
    | cons h1 h2 =>
      cases r with
      | cons r1 r2 =>
        obtain ⟨as, q1, n1⟩ := dp_reads_off I hreg d _ _ h1 r1
        obtain ⟨bs, q2, n2⟩ := dpAll_reads_off I hreg ds _ _ h2 r2
        exact ⟨_, .cons q1 q2, fun z => by rcases List.mem_append.mp z with z | z; exact n1 z; exact n2 z⟩
end
end
def flatD : PyData → Bool
  | .none | .bool _ | .int _ | .str _ => true
  | _ => false
theorem flat_reads {h : Heap} {K : PySem.W.Frag} {H : Hp} : ∀ {vs : List V} {ds : List PyData} {us : List Value}, DpAll K H vs ds → Vals vs us → (∀ d ∈ ds, flatD d = true) → ReadsAll h us ds []
  | _, _, _, .nil, .nil, _ => .nil
  | _, _, _, .cons (d := d) h1 h2, .cons (b := u) r1 r2, hf => by
    have hd := hf d List.mem_cons_self
    have : Reads h u d [] := by
      cases h1 with
      | non => cases r1; exact .none
      | bl b => cases r1; exact .bool b
      | int i => obtain ⟨t, rfl⟩ := r1; exact .int i t
      | str x => obtain ⟨t, rfl⟩ := r1; exact .str x t
      | lst _ _ => simp [flatD] at hd
      | tup _ _ => simp [flatD] at hd
    exact ReadsAll.cons (as := []) (bs := []) this (flat_reads h2 r2 fun x hx => hf x (List.mem_cons_of_mem _ hx))
/-- what repr asks of its argument: data without dicts, or a dict of flat values -/
def rRepr (K : PySem.W.Frag) : List V → Hp → VK → Prop := fun xs H Q => ∃ x d, xs = [x] ∧ (Dp K H x d ∨ ∃ a kvs ds, x = .ref a ∧ Rd H a (.dK kvs) ∧ DpAll K H (kvs.map (·.2)) ds ∧ (∀ e ∈ ds, flatD e = true) ∧ d = .dict ((kvs.map fun p => kD p.1).zip ds)) ∧
  Fine d ∧ Q (.str d.shown) H
section
variable {X : Cx}
theorem call_repr (hg : X.A.guards = some []) (hu : X.A.units + 64 < cLine) : CallR X (.builtin "repr") (rRepr X.K) := by
  intro pins s σ H xs us Q I r h
  obtain ⟨x, d, rfl, hd, fine, q⟩ := h
  obtain ⟨u, rfl, rx⟩ := r.one
  have hs := (leafOk_show d fine.leaf).1
  have hz := fine.len
  have hdp := fine.dp
  have fin : ∀ h' t tk, (∀ b o, s.heap.get? b = some o → h'.get? b = some o) → EP X pins σ Q (.str d.shown t) { s with heap := h', toks := tk } := fun h' t tk hk => ⟨.str d.shown, H, I.kept hk, ⟨t, rfl⟩, q⟩
  have tail : ∀ a as, u = .ref a → Reads s.heap u d as → (d.hasDict = true → sysModules ∉ as) → wpAny (model X.prog X.w) X.A (call (.builtin "repr") [u]) (EP X pins σ Q) X.xe s := by
    rintro a as rfl rd hsm
    exact repr_of_reads' rd hs hsm hg (by omega) (fun _ _ e => e) fin hz
  rcases hd with hd | ⟨a, kvs, ds, rfl, hr, hv, hf, rfl⟩
  · have hn := dp_nodict d x hd
    obtain ⟨as, rd⟩ := Dp.reads I d x u hd rx
    have hsm : d.hasDict = true → sysModules ∉ as := fun z => by rw [hn] at z; cases z
    cases hd with
    | non => cases rx; exact PySem.P.repr_of_none (fin s.heap _ _ fun _ _ e => e)
    | bl b => cases rx; exact PySem.P.repr_of_bool (fin s.heap _ _ fun _ _ e => e)
    | int i =>
      obtain ⟨t, rfl⟩ := rx
      exact PySem.P.repr_of_int (by simpa [PyData.showable] using hs) (fin s.heap _ _ fun _ _ e => e)
    | str y =>
      obtain ⟨t, rfl⟩ := rx
      exact PySem.P.repr_of_str (fin s.heap _ _ fun _ _ e => e) (by simpa [PyData.shown] using hz)
    | lst _ _ => cases rx; exact tail _ _ rfl rd hsm
    | tup _ _ => cases rx; exact tail _ _ rfl rd hsm
  · cases rx
    obtain ⟨_, hsys, vs, kv, o, es, ep, ho, hex, hdat, _, hp, _⟩ := dk_rd I.hok hr
    obtain ⟨k1, k2⟩ := kd_reads (h := s.heap) kv hp
    have hlen : (kvs.map fun p => kD p.1).length = ds.length := by rw [List.length_map, ← dpAll_len hv, List.length_map]
    have e1 : ((kvs.map fun p => kD p.1).zip ds).map (·.1) = kvs.map fun p => kD p.1 := List.map_fst_zip (by omega)
    have e2 : ((kvs.map fun p => kD p.1).zip ds).map (·.2) = ds := List.map_snd_zip (by omega)
    refine tail a (a :: [] ++ []) rfl (Reads.dict ho hex.1 hdat (by rw [e1]; exact k1) (by rw [e2]; exact flat_reads hv k2 hf)) (fun _ => ?_)
    intro z
    have : sysModules = a := by simpa using z
    rw [this] at hsys
    simp at hsys
end

/-! ### powers of great ints -/
def CPowW (i j : Int) : Prop := 0 ≤ j ∧ (Builtin.Int.intBits i : Int) * j ≤ 2 ^ 27
theorem op_powW {X : Cx} : OpR X (binaryOp .Pow) (rI CPowW fun i j => .int (i ^ j.toNat)) := opI fun _ _ _ _ _ _ _ hc q => pow_int hc.1 hc.2 q
end Gd

set_option Elab.async false
set_option linter.all false
set_option maxRecDepth 100000
set_option maxHeartbeats 4000000
/-! the rules whose readings name the written part, with that part as a letter of its own (for the blocks of comprehensions) -/
namespace Gd
open PySem PySem.Spec PyProof.Rows L2
def rLenK (K : PySem.W.Frag) : List V → Hp → VK → Prop := fun xs H Q => ∃ p ys, xs = [.ref p] ∧ (SqL K H p ys ∨ SqT K H p ys) ∧ Q (.int ys.length) H
def rListK (K : PySem.W.Frag) : List V → Hp → VK → Prop := fun xs H Q => ∃ p ys, xs = [.ref p] ∧ (SqL K H p ys ∨ SqT K H p ys) ∧ ∀ l, H l = none → Q (.ref l) (upd H l (.lst ys))
def rTupK (K : PySem.W.Frag) : List V → Hp → VK → Prop := fun xs H Q => ∃ p ys, xs = [.ref p] ∧ ((SqL K H p ys ∧ ∀ l, H l = none → Q (.ref l) (upd H l (.tup ys))) ∨ (SqT K H p ys ∧ Q (.ref p) H))
section
variable {X : Cx} {K : PySem.W.Frag}
theorem k_len (h : X.K = K) : CallR X (.builtin "len") (rLenK K) := by subst h; exact call_len_seq
theorem k_list (h : X.K = K) : CallR X (.type "list") (rListK K) := by subst h; exact call_list_of
theorem k_tuple (h : X.K = K) : CallR X (.type "tuple") (rTupK K) := by subst h; exact call_tuple_of
theorem k_isi (h : X.K = K) : CallR X (.builtin "isinstance") (rIsi K) := by subst h; exact call_isi
theorem k_all (h : X.K = K) (hc : X.calm = true) : CallR X (.builtin "all") (rAll K) := by subst h; exact cr_all hc
theorem k_any (h : X.K = K) (hc : X.calm = true) : CallR X (.builtin "any") (rAny K) := by subst h; exact cr_any hc
theorem k_max (h : X.K = K) (hc : X.calm = true) : CallR X (.builtin "max") (rMax K) := by subst h; exact cr_max hc
theorem k_sum (h : X.K = K) (hc : X.calm = true) : CallR X (.builtin "sum") (rSum K) := by subst h; exact cr_sum hc
theorem k_repr (h : X.K = K) (hg : X.A.guards = some []) (hu : X.A.units + 64 < cLine) : CallR X (.builtin "repr") (rRepr K) := by subst h; exact call_repr hg hu
theorem kx_list (h : X.K = K) : IxR X (rIxL K) := by subst h; exact ix_list
theorem kx_tup (h : X.K = K) : IxR X (rIxT K) := by subst h; exact ix_tup
theorem kx_seq (h : X.K = K) : IxR X (rIx K) := by subst h; exact ix_seq
theorem ko_in (h : X.K = K) : OpR X (compareOp .In) (rIn K false) := by subst h; exact op_in_seq
theorem ko_notIn (h : X.K = K) : OpR X (compareOp .NotIn) (rIn K true) := by subst h; exact op_notIn_seq
theorem ko_eqD (h : X.K = K) (hu : X.A.units + 64 < cLine) : OpR X (compareOp .Eq) (rEqD K) := by subst h; exact op_eqD hu
theorem ko_neD (h : X.K = K) (hu : X.A.units + 64 < cLine) : OpR X (compareOp .NotEq) (rNeD K) := by subst h; exact op_neD hu
theorem kg_tup {elts : List Expr} {kk : Nat} {pos : Pos} {t : TGs} (h : X.K = K) (hp : PG X (.Tuple elts kk pos) (gTup X.K elts.length t)) : PG X (.Tuple elts kk pos) (gTup K elts.length t) := by subst h; exact hp
theorem ki {tg iter : Expr} {f : PySem.W.Frag → TI} (h : X.K = K) (hp : PI X tg iter (f X.K)) : PI X tg iter (f K) := by subst h; exact hp
theorem kb_m {T : String} {name : Str} {o e : Expr} {es : List Expr} {apos cpos : Pos} {r : V → List V → Hp → VK → Prop} {to : TE} {t : TA} (h : X.K = K)
    (hp : PE X (.Call (.Attribute o name apos) (e :: es) [] cpos) (tBM X.K T r to t)) : PE X (.Call (.Attribute o name apos) (e :: es) [] cpos) (tBM K T r to t) := by subst h; exact hp
end
/-- a loop over enumerate of a list that stays -/
theorem for_enum {K : PySem.W.Frag} {a : Addr} {xs : List V} {g : TG} {tb : TS} {D : Ends} {σ : L2.St} {H : Hp} (Pv : Nat → L2.St → Hp → Prop) (h0 : Pv 0 σ H) (hq : ∀ i σ H, Pv i σ H → SqL K H a xs)
    (hs : ∀ (i : Nat) (x : V) (T : Addr) (σ : L2.St) (H : Hp), xs[i]? = some x → Pv i σ H → H T = none →
      g (.ref T) σ (upd H T (.tup [.int (i : Nat), x])) fun σ2 H2 => tb { D with nx := Pv (i + 1), ct := Pv (i + 1), bk := D.nx } σ2 H2) (hd : ∀ σ H, Pv xs.length σ H → D.nx σ H) :
    ∃ W : Nat → Nat → L2.St → Hp → Prop, (∃ m, W 0 m σ H) ∧ ∀ i m σ H, W i m σ H →
      ((Ite K a).stop i H ∧ D.nx σ H) ∨ ((Ite K a).go i H ∧ ∃ N : L2.St → Hp → Prop, (∀ σ' H', N σ' H' → ∃ m', m' < m ∧ W (i + 1) m' σ' H') ∧
        ∀ v H', (Ite K a).yld i H v H' → g v σ H' fun σ2 H2 => tb { D with nx := N, ct := N, bk := D.nx } σ2 H2) := by
  refine ⟨fun i m σ H => m + i = xs.length ∧ Pv i σ H, ⟨xs.length, rfl, h0⟩, fun i m σ H hw => ?_⟩
  obtain ⟨hm, p⟩ := hw
  have q := hq i σ H p
  by_cases hlt : i < xs.length
  · have hx : xs[i]? = some xs[i] := List.getElem?_eq_getElem hlt
    refine Or.inr ⟨⟨xs, _, q, hx⟩, Pv (i + 1), fun σ' H' p' => ⟨m - 1, by omega, by omega, p'⟩, fun v H' y => ?_⟩
    obtain ⟨T, x', rfl, hT, rfl, f1⟩ := y
    exact hs i x' T σ H (f1 xs q) p hT
  · have e : i = xs.length := by omega
    subst e
    exact Or.inl ⟨⟨xs, q, Nat.le_refl _⟩, hd σ H p⟩
end Gd

set_option Elab.async false
set_option linter.all false
set_option maxRecDepth 100000
set_option maxHeartbeats 4000000
/-! three comparisons in a chain; zip of three tuples; comprehensions over a text -/
namespace Gd
open PySem PySem.Spec PyProof.Rows L2
section
variable {X : Cx} {a b c d : Expr} {ta tb tc td : TE} {pos : Pos}
def tT3 (r r' r'' : R2) (ta tb tc td : TE) : TT := fun σ H Q => ta σ H fun x H1 => tb σ H1 fun y H2 => r x y H2 fun z H3 => ∃ k, z = .bl k ∧ (if k = true then
  tc σ H3 fun u H4 => r' y u H4 fun z' H5 => ∃ k', z' = .bl k' ∧ (if k' = true then td σ H5 fun v H6 => r'' u v H6 fun z'' H7 => ∃ k'', z'' = .bl k'' ∧ Q k'' H7 else Q false H5) else Q false H3)
theorem pt_chain3 {op op' op'' : CmpOp} {r r' r'' : R2} (ho : OpR X (compareOp op) r) (ho' : OpR X (compareOp op') r') (ho'' : OpR X (compareOp op'') r'') (ha : PE X a ta) (hb : PE X b tb) (hc : PE X c tc) (hd : PE X d td)
    (hm : lastMarks [op, op', op''] [b, c, d] = false := by with_unfolding_all rfl) : PT X (.Compare a [op, op', op''] [b, c, d] pos) (tT3 r r' r'' ta tb tc td) := by
  refine ⟨fun pins s σ H Q I h => ?_⟩
  refine isTrue_chain (thn (ha.run pins s σ H _ I h) fun v s1 hv => ?_) hm
  obtain ⟨x, H1, I1, r1, q1⟩ := hv
  refine test_link (thn (hb.run pins s1 σ H1 _ I1 q1) fun u s2 hu => ?_)
  obtain ⟨y, H2, I2, r2, q2⟩ := hu
  refine thn (ho pins s2 σ H2 x y v u _ I2 r1 r2 q2) fun e s3 he => ?_
  obtain ⟨z, H3, I3, r3, k, ez, q3⟩ := he
  subst ez
  cases r3
  refine wpAny_truthy_bool ?_
  cases k with
  | false => exact ite_ff ⟨H3, I3, q3⟩
  | true =>
    refine ite_tt ?_
    refine test_link (thn (hc.run pins s3 σ H3 _ I3 q3) fun u4 s4 hu4 => ?_)
    obtain ⟨y4, H4, I4, r4, q4⟩ := hu4
    refine thn (ho' pins s4 σ H4 y y4 u u4 _ I4 r2 r4 q4) fun e5 s5 he5 => ?_
    obtain ⟨z5, H5, I5, r5, k5, e5', q5⟩ := he5
    subst e5'
    cases r5
    refine wpAny_truthy_bool ?_
    cases k5 with
    | false => exact ite_ff ⟨H5, I5, q5⟩
    | true =>
      refine ite_tt (test_last (thn (hd.run pins s5 σ H5 _ I5 q5) fun u6 s6 hu6 => ?_))
      obtain ⟨y6, H6, I6, r6, q6⟩ := hu6
      refine thn (ho'' pins s6 σ H6 y4 y6 u4 u6 _ I6 r4 r6 q6) fun e7 s7 he7 => ?_
      obtain ⟨z7, H7, I7, r7, k7, e7', q7⟩ := he7
      subst e7'
      cases r7
      exact wpAny_truthy_bool ⟨H7, I7, q7⟩
end

/-! ### zip of three tuples of one length -/
def Itz3 (K : PySem.W.Frag) (a b c : Addr) : It :=
  ⟨fun i H => ∃ (xs ys zs : List V), SqT K H a xs ∧ SqT K H b ys ∧ SqT K H c zs ∧ xs.length = ys.length ∧ ys.length = zs.length ∧ i < xs.length,
    fun i H v H' => ∃ T x y z, v = .ref T ∧ H T = none ∧ H' = upd H T (.tup [x, y, z]) ∧ (∀ xs, SqT K H a xs → xs[i]? = some x) ∧ (∀ ys, SqT K H b ys → ys[i]? = some y) ∧ ∀ zs, SqT K H c zs → zs[i]? = some z,
    fun i H => ∃ (xs ys zs : List V), SqT K H a xs ∧ SqT K H b ys ∧ SqT K H c zs ∧ xs.length = ys.length ∧ ys.length = zs.length ∧ i = xs.length⟩
def Zst (z TI TO i1 i2 i3 a b c : Addr) (i : Nat) (h : Heap) : Prop :=
  IsZip h z TI TO .none ∧ IsTupOf3 h TI (.ref i1) (.ref i2) (.ref i3) ∧ (∃ a1 a2 a3, IsTupOf3 h TO a1 a2 a3) ∧ h.IsTupleIter i1 a i ∧ h.IsTupleIter i2 b i ∧ h.IsTupleIter i3 c i
theorem turn_zip3 {P : Program} {w : World} {K : PySem.W.Frag} {elts : List Expr} {kk : Nat} {tpos : Pos} {a b c z TI TO i1 i2 i3 : Addr} (D : ZipSep3 z TI TO i1 i2 i3 [i1, a] [i2, b] [i3, c]) (n1 : a ≠ i1) (n2 : b ≠ i2) (n3 : c ≠ i3) :
    Turn P w K (.Tuple elts kk tpos) (Itz3 K a b c) [z, TI, TO, i1, i2, i3] z (Zst z TI TO i1 i2 i3 a b c) where
  mem := by simp
  obj := fun i h st x hx => by
    obtain ⟨hz, hTI, ⟨_, _, _, hTO⟩, ⟨o1, e1, _, d1⟩, ⟨o2, e2, _, d2⟩, ⟨o3, e3, _, d3⟩⟩ := st
    have hx' : x = z ∨ x = TI ∨ x = TO ∨ x = i1 ∨ x = i2 ∨ x = i3 := by simpa using hx
    rcases hx' with q | q | q | q | q | q <;> subst q
    · exact ⟨_, hz, fun v q => nomatch q⟩
    · exact ⟨_, hTI, fun v q => nomatch q⟩
    · exact ⟨_, hTO, fun v q => nomatch q⟩
    · exact ⟨o1, e1, fun v q => by rw [d1] at q; cases q⟩
    · exact ⟨o2, e2, fun v q => by rw [d2] at q; cases q⟩
    · exact ⟨o3, e3, fun v q => by rw [d3] at q; cases q⟩
  keep := fun i h h' st k => by
    obtain ⟨hz, hTI, ⟨u1, u2, u3, hTO⟩, h1, h2, h3⟩ := st
    exact ⟨k z (by simp) _ hz, k TI (by simp) _ hTI, ⟨u1, u2, u3, k TO (by simp) _ hTO⟩, h1.at fun o q => k i1 (by simp) o q, h2.at fun o q => k i2 (by simp) o q, h3.at fun o q => k i3 (by simp) o q⟩
  item := by
    intro X hP hw hK hc i pins s σ H E I hf st hg
    subst hP hw hK
    obtain ⟨hz, hTI, hTO, h1, h2, h3⟩ := id st
    obtain ⟨xs, ys, zs, qx, qy, qz, l1, l2, hi⟩ := hg
    obtain ⟨its1, rv1, p1, _⟩ := I.tuple qx
    obtain ⟨its2, rv2, p2, _⟩ := I.tuple qy
    obtain ⟨its3, rv3, p3, _⟩ := I.tuple qz
    have m1 := rv1.length
    have m2 := rv2.length
    have m3 := rv3.length
    have hh : X.A.in1.handled = none := I.ok.hd hc
    have W := GoesN.zip3 (prog := X.prog) (w := X.w) (A := X.A) (elts := elts) (x1 := kk) (pos := tpos) D (Draws.tuple hh i1 a n1 its1.toArray) (Draws.tuple hh i2 b n2 its2.toArray) (Draws.tuple hh i3 c n3 its3.toArray)
    have hn : i < min (min its1.toArray.size its2.toArray.size) its3.toArray.size := by
      rw [List.size_toArray, List.size_toArray, List.size_toArray]; omega
    refine W.goes i s _ E hn ⟨hz, hTI, hTO, ⟨h1, p1⟩, ⟨h2, p2⟩, ⟨h3, p3⟩⟩ fun v h' tk hY st' hk _ => ?_
    obtain ⟨T, u1, u2, u3, rfl, hTn, g1, g2, g3, oT, eT, cT, nT, dT⟩ := hY
    obtain ⟨x, hx⟩ : ∃ x, xs[i]? = some x := ⟨_, List.getElem?_eq_getElem hi⟩
    obtain ⟨y, hy⟩ : ∃ y, ys[i]? = some y := ⟨_, List.getElem?_eq_getElem (by omega)⟩
    obtain ⟨u, hu⟩ : ∃ u, zs[i]? = some u := ⟨_, List.getElem?_eq_getElem (by omega)⟩
    obtain ⟨v1, e1, r1⟩ := rv1.get hx
    obtain ⟨v2, e2, r2⟩ := rv2.get hy
    obtain ⟨v3, e3, r3⟩ := rv3.get hu
    have f1 : v1 = u1 := by simp at g1; rw [g1] at e1; exact (Option.some.inj e1).symm
    have f2 : v2 = u2 := by simp at g2; rw [g2] at e2; exact (Option.some.inj e2).symm
    have f3 : v3 = u3 := by simp at g3; rw [g3] at e3; exact (Option.some.inj e3).symm
    subst f1 f2 f3
    have new : ObjOk X.prog X.w (upd H T (.tup [x, y, u])) h' T (.tup [x, y, u]) := ⟨by show 3 ≤ sizeLine; decide, [v1, v2, v3], .cons r1 (.cons r2 (.cons r3 .nil)), oT, eT, cT, nT, dT⟩
    have J := I.turnedNew (t' := tk) (ch := [z, TI, TO, i1, i2, i3]) (h' := h') (fun q o hb e => hk q o (fun hm => hb (by simp at hm ⊢; rcases hm with r | r | r | r | r <;> simp [r])) e) hf hTn new
    obtain ⟨z', TI', TO', ⟨k1, _⟩, ⟨k2, _⟩, ⟨k3, _⟩⟩ := st'
    refine ⟨.ref T, _, J, rfl, ⟨T, x, y, u, rfl, I.hok.fresh hTn, rfl, fun l hl => by rw [I.tuple_inj hl qx]; exact hx, fun l hl => by rw [I.tuple_inj hl qy]; exact hy, fun l hl => by rw [I.tuple_inj hl qz]; exact hu⟩, ⟨z', TI', TO', k1, k2, k3⟩, fun q hq => ?_⟩
    obtain ⟨oq, eq, _⟩ := (show ∀ q ∈ [z, TI, TO, i1, i2, i3], ∃ o, s.heap.get? q = some o ∧ True from fun q hq => by
      obtain ⟨o1, e1, _⟩ := h1
      obtain ⟨o2, e2, _⟩ := h2
      obtain ⟨o3, e3, _⟩ := h3
      obtain ⟨_, _, _, hTO⟩ := hTO
      have hq' : q = z ∨ q = TI ∨ q = TO ∨ q = i1 ∨ q = i2 ∨ q = i3 := by simpa using hq
      rcases hq' with r | r | r | r | r | r <;> subst r
      · exact ⟨_, hz, trivial⟩
      · exact ⟨_, hTI, trivial⟩
      · exact ⟨_, hTO, trivial⟩
      · exact ⟨_, e1, trivial⟩
      · exact ⟨_, e2, trivial⟩
      · exact ⟨_, e3, trivial⟩) q hq
    rw [upd_ne (Nat.ne_of_lt (Nat.lt_of_lt_of_le (Heap.lt_size eq) hTn))]
    exact (hf q hq).1
  done := by
    intro X hP hw hK hc i pins s σ H E I hf st hg
    subst hP hw hK
    obtain ⟨hz, hTI, hTO, h1, h2, h3⟩ := id st
    obtain ⟨xs, ys, zs, qx, qy, qz, l1, l2, rfl⟩ := hg
    obtain ⟨its1, rv1, p1, _⟩ := I.tuple qx
    obtain ⟨its2, rv2, p2, _⟩ := I.tuple qy
    obtain ⟨its3, rv3, p3, _⟩ := I.tuple qz
    have m1 := rv1.length
    have m2 := rv2.length
    have m3 := rv3.length
    have hh : X.A.in1.handled = none := I.ok.hd hc
    have W := GoesN.zip3 (prog := X.prog) (w := X.w) (A := X.A) (elts := elts) (x1 := kk) (pos := tpos) D (Draws.tuple hh i1 a n1 its1.toArray) (Draws.tuple hh i2 b n2 its2.toArray) (Draws.tuple hh i3 c n3 its3.toArray)
    have hn : xs.length = min (min its1.toArray.size its2.toArray.size) its3.toArray.size := by
      rw [List.size_toArray, List.size_toArray, List.size_toArray]; omega
    rw [hn] at h1 h2 h3
    exact W.stops s _ E ⟨hz, hTI, hTO, ⟨h1, p1⟩, ⟨h2, p2⟩, ⟨h3, p3⟩⟩ fun h' tk hk _ =>
      I.turnedL (t' := tk) (ch := [z, TI, TO, i1, i2, i3]) (h' := h') (fun q o hb e => hk q o (fun hm => hb (by simp at hm ⊢; rcases hm with r | r | r | r | r <;> simp [r])) e) hf
  self := fun A i s Q E st h => wpAny_pyIter_zip st.1 h
def iZip3 (K : PySem.W.Frag) (ta : TA) : TI := fun σ H R => ta σ H fun vs H1 => ∃ a b c xs ys zs, vs = [.ref a, .ref b, .ref c] ∧ SqT K H1 a xs ∧ SqT K H1 b ys ∧ SqT K H1 c zs ∧ R (Itz3 K a b c) H1
theorem pi_zip3 {X : Cx} {e e2 e3 : Expr} {ta : TA} {p pos tpos : Pos} {elts : List Expr} {kk : Nat} (hg : Gl X "zip") (hm : X.mg "zip" = none) (ha : PA X [e, e2, e3] ta)
    (hs : starEach [e, e2, e3] X.env = (false, eval e X.env) :: starEach [e2, e3] X.env := by rfl) (hpl : (backTo pos (starEach [e2, e3] X.env)).any (·.1) = false := by rfl) :
    PI X (.Tuple elts kk tpos) (.Call (.Name "zip" p) [e, e2, e3] [] pos) (iZip3 X.K ta) := by
  refine ⟨fun pins s σ H R I h => ?_⟩
  refine Call_ (ld_blt I hg hm PyProof.Rows.boot_zip (PyProof.Rows.callWith_type1 (thn (ha.run pos pins s σ H _ I h) fun us s1 hz => ?_) hs hpl))
  obtain ⟨vs, H1, I1, r1, a, b, c, xs, ys, zs, rfl, qx, qy, qz, q⟩ := hz
  cases r1 with
  | cons ra r1 =>
    cases r1 with
    | cons rb r1 =>
      cases r1 with
      | cons rc r1 =>
        cases r1
        cases ra
        cases rb
        cases rc
        obtain ⟨its1, _, p1, _⟩ := I1.tuple qx
        obtain ⟨its2, _, p2, _⟩ := I1.tuple qy
        obtain ⟨its3, _, p3, _⟩ := I1.tuple qz
        obtain ⟨o1, ho1, _⟩ := id p1
        obtain ⟨o2, ho2, _⟩ := id p2
        obtain ⟨o3, ho3, _⟩ := id p3
        refine zip_begins3 (begins_tuple a its1.toArray) (begins_tuple b its2.toArray) (begins_tuple c its3.toArray) p1 p2 p3 fun h' hz hTI hTO g1 g2 g3 hsz hk => wpAny_pyIter_zip hz ?_
        have I2 : Inv X pins σ H1 { s1 with heap := h' } := I1.kept (t' := s1.toks) hk
        have S := zip_sep3 (N := s1.heap.objs.size) (fp1 := [a]) (fp2 := [b]) (fp3 := [c]) (fun x hx => by rw [List.mem_singleton.mp hx]; exact Heap.lt_size ho1) (fun x hx => by rw [List.mem_singleton.mp hx]; exact Heap.lt_size ho2) (fun x hx => by rw [List.mem_singleton.mp hx]; exact Heap.lt_size ho3)
        have lt1 := Heap.lt_size ho1
        have lt2 := Heap.lt_size ho2
        have lt3 := Heap.lt_size ho3
        refine ⟨s1.heap.objs.size + 5, [s1.heap.objs.size + 5, s1.heap.objs.size + 3, s1.heap.objs.size + 4, s1.heap.objs.size, s1.heap.objs.size + 1, s1.heap.objs.size + 2], _, _, H1, rfl, I2,
          turn_zip3 S (Nat.ne_of_lt lt1) (Nat.ne_of_lt (Nat.lt_succ_of_lt lt2)) (Nat.ne_of_lt (Nat.lt_succ_of_lt (Nat.lt_succ_of_lt lt3))), ⟨hz, hTI, ⟨_, _, _, hTO⟩, ⟨_, g1, rfl, rfl⟩, ⟨_, g2, rfl, rfl⟩, ⟨_, g3, rfl, rfl⟩⟩, fun q hq => ?_, q⟩
        have hle : s1.heap.objs.size ≤ q := by
          have hq' : q = s1.heap.objs.size + 5 ∨ q = s1.heap.objs.size + 3 ∨ q = s1.heap.objs.size + 4 ∨ q = s1.heap.objs.size ∨ q = s1.heap.objs.size + 1 ∨ q = s1.heap.objs.size + 2 := by simpa using hq
          rcases hq' with r | r | r | r | r | r <;> rw [r]
          all_goals first | exact Nat.le_refl _ | exact Nat.le_add_right _ _
        exact I1.fpOk hle (I1.hok.fresh hle)
theorem for_zip3 {K : PySem.W.Frag} {a b c : Addr} {xs ys zs : List V} {g : TG} {tb : TS} {D : Ends} {σ : L2.St} {H : Hp} (l1 : xs.length = ys.length) (l2 : ys.length = zs.length) (Pv : Nat → L2.St → Hp → Prop) (h0 : Pv 0 σ H)
    (hq : ∀ i σ H, Pv i σ H → SqT K H a xs ∧ SqT K H b ys ∧ SqT K H c zs)
    (hs : ∀ (i : Nat) (x y z : V) (T : Addr) (σ : L2.St) (H : Hp), xs[i]? = some x → ys[i]? = some y → zs[i]? = some z → Pv i σ H → H T = none →
      g (.ref T) σ (upd H T (.tup [x, y, z])) fun σ2 H2 => tb { D with nx := Pv (i + 1), ct := Pv (i + 1), bk := D.nx } σ2 H2) (hd : ∀ σ H, Pv xs.length σ H → D.nx σ H) :
    ∃ W : Nat → Nat → L2.St → Hp → Prop, (∃ m, W 0 m σ H) ∧ ∀ i m σ H, W i m σ H →
      ((Itz3 K a b c).stop i H ∧ D.nx σ H) ∨ ((Itz3 K a b c).go i H ∧ ∃ N : L2.St → Hp → Prop, (∀ σ' H', N σ' H' → ∃ m', m' < m ∧ W (i + 1) m' σ' H') ∧
        ∀ v H', (Itz3 K a b c).yld i H v H' → g v σ H' fun σ2 H2 => tb { D with nx := N, ct := N, bk := D.nx } σ2 H2) := by
  refine ⟨fun i m σ H => m + i = xs.length ∧ Pv i σ H, ⟨xs.length, rfl, h0⟩, fun i m σ H hw => ?_⟩
  obtain ⟨hm, p⟩ := hw
  obtain ⟨q1, q2, q3⟩ := hq i σ H p
  by_cases hlt : i < xs.length
  · refine Or.inr ⟨⟨xs, ys, zs, q1, q2, q3, l1, l2, hlt⟩, Pv (i + 1), fun σ' H' p' => ⟨m - 1, by omega, by omega, p'⟩, fun v H' y => ?_⟩
    obtain ⟨T, x', y', z', rfl, hT, rfl, f1, f2, f3⟩ := y
    exact hs i x' y' z' T σ H (f1 xs q1) (f2 ys q2) (f3 zs q3) p hT
  · have e : i = xs.length := by omega
    subst e
    exact Or.inl ⟨⟨xs, ys, zs, q1, q2, q3, l1, l2, rfl⟩, hd σ H p⟩
/-- a comprehension over a text's signs -/
theorem lc_str {x : Str} {g : TG} {tt : TT} {te : TE} {vs : List Nat} {σ : L2.St} {H1 : Hp} {D : Addr} {Qd : Hp → Prop} (Pv : Nat → Hp → Prop) (h0 : Pv 0 (upd H1 D (.lst [])))
    (hs : ∀ i c H, x.cps[i]? = some c → Pv i H → g (.str ⟨#[c]⟩) (wipe σ vs) H fun σ2 H2 => wipe σ2 vs = wipe σ vs ∧ tt σ2 H2 fun b H3 =>
      if b = true then te σ2 H3 fun y H4 => ∃ acc, H4 D = some (.lst acc) ∧ acc.length < sizeLine ∧ Pv (i + 1) (upd H4 D (.lst (acc ++ [y]))) else Pv (i + 1) H3) (hd : ∀ H, Pv x.cps.size H → Qd H) :
    ∃ W : Nat → Nat → Hp → Prop, (∃ m, W 0 m (upd H1 D (.lst []))) ∧ ∀ i m H, W i m H →
      ((Its x).stop i H ∧ Qd H) ∨ ((Its x).go i H ∧ ∃ Nx : Hp → Prop, (∀ H', Nx H' → ∃ m', m' < m ∧ W (i + 1) m' H') ∧ ∀ v H', (Its x).yld i H v H' → g v (wipe σ vs) H' fun σ2 H2 => wipe σ2 vs = wipe σ vs ∧ tt σ2 H2 fun b H3 =>
        if b = true then te σ2 H3 fun y H4 => ∃ acc, H4 D = some (.lst acc) ∧ acc.length < sizeLine ∧ Nx (upd H4 D (.lst (acc ++ [y]))) else Nx H3) := by
  refine ⟨fun i m H => m + i = x.cps.size ∧ Pv i H, ⟨x.cps.size, rfl, h0⟩, fun i m H hw => ?_⟩
  obtain ⟨hm, p⟩ := hw
  by_cases hlt : i < x.cps.size
  · refine Or.inr ⟨hlt, Pv (i + 1), fun H' p' => ⟨m - 1, by omega, by omega, p'⟩, fun v H' y => ?_⟩
    obtain ⟨rfl, c, hc, rfl⟩ := y
    exact hs i c _ hc p
  · have e : i = x.cps.size := by omega
    subst e
    exact Or.inl ⟨Nat.le_refl _, hd H p⟩
end Gd

set_option Elab.async false
set_option linter.all false
set_option maxRecDepth 100000
set_option maxHeartbeats 4000000
/-! sorted of a list or a tuple of tuples whose places are ints and texts, the first one an int -/
namespace Gd
open PySem PySem.Spec PyProof.Rows L2

/-! ### the order -/
def kLt : Key → Key → Bool
  | .inl a, .inl b => decide (a < b)
  | .inr a, .inr b => decide (a.cps.toList < b.cps.toList)
  | .inl _, .inr _ => true
  | .inr _, .inl _ => false
theorem kLt_no (a : Key) : kLt a a = false := by
  cases a with
  | inl a => exact decide_eq_false (Int.lt_irrefl a)
  | inr a => exact decide_eq_false (List.lt_irrefl _)
theorem kLt_tr {a b c : Key} (h : kLt a b = true) (h2 : kLt b c = true) : kLt a c = true := by
  cases a <;> cases b <;> cases c <;> simp only [kLt, decide_eq_true_eq] at h h2 ⊢ <;> first | trivial | omega | exact List.lt_trans h h2 | exact absurd h (by simp) | exact absurd h2 (by simp) | skip
theorem str_eq {x y : Str} (h : x.cps.toList = y.cps.toList) : x = y := by
  cases x; cases y
  exact congrArg Str.mk (Array.toList_inj.mp h)
theorem list_tri : ∀ {x y : List Nat}, ¬ x < y → x ≠ y → y < x
  | [], [], _, h => absurd rfl h
  | [], b :: y, h, _ => absurd (List.nil_lt_cons b y) h
  | a :: x, [], _, _ => List.nil_lt_cons a x
  | a :: x, b :: y, h, n => by
    rw [List.cons_lt_cons_iff] at h ⊢
    rcases Nat.lt_trichotomy a b with z | z | z
    · exact absurd (Or.inl z) h
    · subst z
      exact Or.inr ⟨rfl, list_tri (fun q => h (Or.inr ⟨rfl, q⟩)) (fun q => n (by rw [q]))⟩
    · exact Or.inl z
theorem kLt_tri {a b : Key} (n : a ≠ b) (h : kLt a b = false) : kLt b a = true := by
  cases a with
  | inl a =>
    cases b with
    | inl b =>
      have h' := of_decide_eq_false h
      have : a ≠ b := fun z => n (by rw [z])
      exact decide_eq_true (by omega)
    | inr b => exact absurd h (by simp [kLt])
  | inr a =>
    cases b with
    | inl b => rfl
    | inr b => exact decide_eq_true (list_tri (of_decide_eq_false h) fun z => n (by rw [str_eq z]))
def lLt : List Key → List Key → Bool
  | [], [] => false
  | [], _ :: _ => true
  | _ :: _, [] => false
  | a :: x, b :: y => if a = b then lLt x y else kLt a b
theorem lLt_no : ∀ x : List Key, lLt x x = false
  | [] => rfl
  | a :: x => by unfold lLt; rw [if_pos rfl]; exact lLt_no x
theorem lLt_tri : ∀ {x y : List Key}, x ≠ y → lLt x y = false → lLt y x = true
  | [], [], n, _ => absurd rfl n
  | [], _ :: _, _, h => by simp [lLt] at h
  | _ :: _, [], _, _ => rfl
  | a :: x, b :: y, n, h => by
    unfold lLt at h ⊢
    by_cases e : a = b
    · subst e
      rw [if_pos rfl] at h ⊢
      exact lLt_tri (fun z => n (by rw [z])) h
    · rw [if_neg e] at h
      rw [if_neg (fun z => e z.symm)]
      exact kLt_tri e h
theorem lLt_tr : ∀ {x y z : List Key}, lLt x y = true → lLt y z = true → lLt x z = true
  | [], [], _, h, _ => by simp [lLt] at h
  | [], _ :: _, [], _, h => by simp [lLt] at h
  | [], _ :: _, _ :: _, _, _ => rfl
  | _ :: _, [], _, h, _ => by simp [lLt] at h
  | _ :: _, _ :: _, [], _, h => by simp [lLt] at h
  | a :: x, b :: y, c :: z, h, h2 => by
    unfold lLt at h h2 ⊢
    by_cases e : a = b
    · subst e
      rw [if_pos rfl] at h
      by_cases e2 : a = c
      · rw [if_pos e2] at h2 ⊢
        exact lLt_tr h h2
      · rw [if_neg e2] at h2 ⊢
        exact h2
    · rw [if_neg e] at h
      by_cases e2 : b = c
      · subst e2
        rw [if_neg e]
        exact h
      · rw [if_neg e2] at h2
        have h3 := kLt_tr h h2
        by_cases e3 : a = c
        · subst e3
          rw [kLt_no] at h3
          cases h3
        · rw [if_neg e3]
          exact h3
theorem lLt_as {x y : List Key} (h : lLt x y = true) : lLt y x = false := by
  cases q : lLt y x with
  | false => rfl
  | true =>
    have := lLt_tr h q
    rw [lLt_no] at this
    cases this
theorem swo_l {α : Type} (k : α → List Key) : SrtO.Swo fun x y => lLt (k x) (k y) := by
  refine ⟨fun x y h => lLt_as h, fun x y z h1 h2 => ?_⟩
  cases q : lLt (k z) (k x) with
  | false => rfl
  | true =>
    by_cases e1 : k y = k x
    · rw [← e1, h2] at q; cases q
    · have a1 := lLt_tri e1 h1
      by_cases e2 : k z = k y
      · rw [e2, h1] at q; cases q
      · have a2 := lLt_tri e2 h2
        have a3 := lLt_tr a1 a2
        rw [lLt_as a3] at q
        cases q

/-! ### the machine's comparison -/
section
variable {prog : Program} {w : World} {A : Around} {s : Shared}
def tyK : Key → Bool
  | .inl _ => true
  | .inr _ => false
theorem kat_keys : ∀ {ks ls : List Key} {us ws : List Value} {i : Nat}, Vals (ks.map kV) us → Vals (ls.map kV) ws → ks.map tyK = ls.map tyK → (i = 0 → ∀ k ∈ ks.head?, tyK k = true) →
    PySem.W.KatLex prog w A true false (fun r s' => s' = s ∧ r = lLt ks ls) (us.zip ws) i s
  | [], [], _, _, _, .nil, .nil, _, _ => PySem.W.kat_nil ⟨rfl, rfl⟩
  | [], _ :: _, _, _, _, _, _, h, _ => by simp at h
  | _ :: _, [], _, _, _, _, _, h, _ => by simp at h
  | a :: ks, b :: ls, _, _, i, .cons (b := u) ra rs, .cons (b := v) rb rt, h, hi => by
    simp only [List.map_cons, List.cons.injEq] at h
    have tail : a = b → PySem.W.KatLex prog w A true false (fun r s' => s' = s ∧ r = lLt (a :: ks) (b :: ls)) _ (i + 1) s := fun e => by
      have e2 : lLt (a :: ks) (b :: ls) = lLt ks ls := show (if a = b then lLt ks ls else kLt a b) = lLt ks ls from if_pos e
      rw [e2]
      exact kat_keys rs rt h.2 (fun z => by omega)
    have other : ¬ a = b → lLt (a :: ks) (b :: ls) = kLt a b := fun e => show (if a = b then lLt ks ls else kLt a b) = kLt a b from if_neg e
    cases a with
    | inl x =>
      cases b with
      | inr _ => exact absurd h.1 (by simp [tyK])
      | inl y =>
        obtain ⟨t, rfl⟩ := ra
        obtain ⟨t', rfl⟩ := rb
        refine PySem.W.kat_cons (SeqAt.EqAt.int_int x t y t' prog w _ _ ?_)
        refine PySem.W.kat_go (fun e1 => ?_) (fun e1 => ?_)
        · have ex : x = y := by simpa using e1
          exact PySem.W.kat_yes (tail (by rw [ex]))
        · have ex : ¬ x = y := by simpa using e1
          have e3 := other (fun z => ex (Sum.inl.inj z))
          refine PySem.W.kat_no ?_
          cases hc : (true && i == 0) with
          | true => exact oneLt_int ⟨rfl, e3.symm⟩
          | false => exact PySem.W.kat_one _ _ (PyProof.Rows.lt_int (Q := PySem.W.BoolBack _) ⟨rfl, e3.symm⟩)
    | inr x =>
      cases b with
      | inl _ => exact absurd h.1 (by simp [tyK])
      | inr y =>
        obtain ⟨t, rfl⟩ := ra
        obtain ⟨t', rfl⟩ := rb
        refine PySem.W.kat_cons (SeqAt.EqAt.str_str x t y t' prog w _ _ ?_)
        refine PySem.W.kat_go (fun e1 => ?_) (fun e1 => ?_)
        · have ex : x = y := by simpa using e1
          exact PySem.W.kat_yes (tail (by rw [ex]))
        · have ex : ¬ x = y := by simpa using e1
          have e3 := other (fun z => ex (Sum.inr.inj z))
          have h0 : ¬ i = 0 := fun z => by
            have := hi z (.inr x) rfl
            simp [tyK] at this
          refine PySem.W.kat_no ?_
          have hc : (true && i == 0) = false := by simpa using h0
          rw [hc]
          exact PySem.W.kat_one _ _ (PyProof.Rows.lt_str (Q := PySem.W.BoolBack _) ⟨rfl, e3.symm⟩)
/-- v is a tuple of these keys -/
def TupAt (h : Heap) (v : Value) (ks : List Key) : Prop := ∃ a o us n, v = .ref a ∧ h.get? a = some o ∧ o.cls = .type "tuple" ∧ o.data = .seq (List.toArray us) n ∧ Vals (ks.map kV) us
theorem TupAt.keeps {h h' : Heap} {v : Value} {ks : List Key} (x : TupAt h v ks) (hk : ∀ b o, h.get? b = some o → o.cls = .type "tuple" → h'.get? b = some o) : TupAt h' v ks := by
  obtain ⟨a, o, us, n, e, ho, hc, hd, r⟩ := x
  exact ⟨a, o, us, n, e, hk _ _ ho hc, hc, hd, r⟩
theorem firsts {h : Heap} {τ : List Bool} {k : Value → List Key} (hτ : τ.head? = some true) : ∀ {vs : List Value}, (∀ v ∈ vs, TupAt h v (k v) ∧ (k v).map tyK = τ) → ∃ fs : List Value, PySem.W.KatTups h vs fs ∧ fs.length = vs.length ∧ ∀ f ∈ fs, ∃ x t, f = Value.int x t
  | [], _ => ⟨[], PySem.W.KatTups.nil, rfl, fun _ hm => by simp at hm⟩
  | v :: vs, hp => by
    obtain ⟨fs, h1, h2, h3⟩ := firsts hτ (vs := vs) fun v' hm => hp v' (List.mem_cons_of_mem _ hm)
    obtain ⟨⟨a, o, us, n, e, ho, hc, hd, r⟩, ht⟩ := hp v List.mem_cons_self
    subst e
    cases q : k (.ref a) with
    | nil => rw [q] at ht; rw [← ht] at hτ; simp at hτ
    | cons c ks =>
      rw [q] at ht r
      rw [← ht] at hτ
      cases c with
      | inr z => simp [tyK] at hτ
      | inl z =>
        cases r with
        | cons r1 r2 =>
          obtain ⟨t, rfl⟩ := r1
          refine ⟨.int z t :: fs, PySem.W.KatTups.cons ho hc hd rfl h1, by rw [List.length_cons, List.length_cons, h2], fun f hm => ?_⟩
          rcases List.mem_cons.mp hm with rfl | hm
          · exact ⟨z, t, rfl⟩
          · exact h3 f hm
theorem tups_sortable {a : Addr} {vs : List Value} {k : Value → List Key} {τ : List Bool} (hτ : τ.head? = some true) (h0 : 0 < vs.length) (hp : ∀ v ∈ vs, TupAt s.heap v (k v) ∧ (k v).map tyK = τ) (ha : ∀ o, s.heap.get? a = some o → o.cls ≠ .type "tuple") :
    SrtO.SortableO prog w A s a vs fun v u => lLt (k v) (k u) := by
  intro h' keep
  have hp' : ∀ v ∈ vs, TupAt h' v (k v) ∧ (k v).map tyK = τ := fun v hm => ⟨(hp v hm).1.keeps fun b o e c => keep b o (fun z => by subst z; exact ha o e c) e, (hp v hm).2⟩
  obtain ⟨fs, h1, h2, h3⟩ := firsts hτ hp'
  refine ⟨tuples' true, fun Q E hq => ?_, fun p q hm hm' => ?_⟩
  · refine PySem.W.kat_kind (T := .type "int") h1 (by omega) (fun f hm => ?_) (by rfl) ?_
    · obtain ⟨x, t, rfl⟩ := h3 f hm
      exact PySem.W.Looks.now
    · have e : (Value.type "int" != Value.type "tuple") = true := by first | decide +kernel | rfl | decide
      rw [e]
      exact hq
  · obtain ⟨⟨b, o, us, n, e, ho, hc, hd, r⟩, ht⟩ := hp' _ hm
    obtain ⟨⟨b', o', us', n', e', ho', hc', hd', r'⟩, ht'⟩ := hp' _ hm'
    show wpAny (model prog w) A (keyLt' (tuples' true) p.1 q.1) (fun r s' => s' = { s with heap := h' } ∧ r = lLt (k p.1) (k q.1)) (fun _ _ => False) { s with heap := h' }
    generalize k p.1 = ks at *
    generalize k q.1 = ls at *
    rw [e, e']
    refine PySem.W.kat_lt ho hd ho' hd' ?_
    have l1 := r.length
    have l2 := r'.length
    have l3 : ks.length = ls.length := by
      have := congrArg List.length (ht.trans ht'.symm)
      simpa using this
    have hf : decide (us.toArray.size < us'.toArray.size) = false := by
      refine decide_eq_false ?_
      rw [List.size_toArray, List.size_toArray]
      rw [List.length_map] at l1 l2
      omega
    rw [hf]
    refine kat_keys r r' (ht.trans ht'.symm) (fun _ c hc0 => ?_)
    rw [← ht] at hτ
    cases ks with
    | nil => simp at hc0
    | cons d ks =>
      have hd0 : d = c := by simpa using hc0
      subst hd0
      simpa using hτ
end
section
variable {prog : Program} {w : World} {A : Around} {E : Value → Shared → Prop} {s : Shared}
theorem collect_tup {l : Addr} {vs : List Value} {Q : List Value → Shared → Prop} (hl : s.heap.IsTuple l vs.toArray)
    (h : Q vs { s with heap := (s.heap.push (seqObj "list" #[] 0)).update s.heap.objs.size (Obj.mapSeq (· ++ vs.toArray)) }) (hsz : vs.length ≤ sizeLine) :
    wpAny (model prog w) A (collect (.ref l)) Q E s := by
  obtain ⟨o, ho, hc, n, hd⟩ := id hl
  unfold collect
  refine wpAny_bind (wpAny_runValue (codeAny_builtin F.entry_proto_collect ?_))
  show wpAny _ _ (do again (.builtin "list.__iadd__" ⟨[← newList [], .ref l], []⟩)) _ _ s
  refine wpAny_bind (wpAny_newList (wpAny_pure ⟨Code.quiet_builtin _ (by decide +kernel), codeAny_builtin F.entry_list_iadd ?_⟩))
  show wpAny _ _ (Builtin.List.listExtendWith (.ref s.heap.objs.size) (.ref l) (.ref s.heap.objs.size)) _ _ { s with heap := s.heap.push (seqObj "list" #[] 0) }
  unfold Builtin.List.listExtendWith
  have ho2 : (s.heap.push (seqObj "list" #[] 0)).get? l = some o := Heap.get?_push_of_some _ ho
  have self : (s.heap.push (seqObj "list" #[] 0)).get? s.heap.objs.size = some (seqObj "list" #[] 0) := Heap.get?_push_size _ rfl
  refine wpAny_bind (wpAny_typeOf (T := "tuple") ⟨o, ho2, hc⟩ ?_)
  have ht : (Value.type "tuple" == Value.type "tuple") = true := by rfl
  rw [if_pos (by rw [ht]; simp)]
  refine wpAny_bind (listItems_at ho2 hd ?_)
  refine wpAny_bind (listItems_at self rfl ?_)
  rw [if_neg (by simp)]
  refine wpAny_bind (listUpdate_at self rfl ?_ (Nat.zero_le _) (by show (#[] ++ vs.toArray).size ≤ sizeLine + 1; simp only [Array.size_append, List.size_toArray, List.length_nil]; omega))
  refine wpAny_pure ?_
  show wpAny (model prog w) A (load s.heap.objs.size >>= fun o => match o.data with | .seq xs _ => pure xs.toList | _ => unsupported "internal:collect") Q E _
  refine wpAny_bind (wpAny_load (get?_update_seq self _) ?_)
  show wpAny _ _ (pure ((#[] : Array Value) ++ vs.toArray).toList) Q E _
  rw [show ((#[] : Array Value) ++ vs.toArray).toList = vs by simp]
  exact wpAny_pure h
/-- sorted(l), l a list or a tuple -/
theorem sorted_any {l : Addr} {vs : List Value} {ltv : Value → Value → Bool} {Q : Value → Shared → Prop} (O : SrtO.Swo ltv) (hl : s.heap.IsList l vs.toArray ∨ s.heap.IsTuple l vs.toArray) (hz : vs.length ≤ sizeLine)
    (hS : 2 ≤ vs.length → ∀ (h₁ : Heap) (a : Addr), h₁.get? a = some (seqObj "list" vs.toArray 0) → (∀ b o, s.heap.get? b = some o → b ≠ a ∧ h₁.get? b = some o) → SrtO.SortableO prog w A.in1.in1 { s with heap := h₁ } a vs ltv)
    (h : ∀ out : List Value, SrtO.Srtd ltv out → SrtO.Stb ltv out vs → Q (.ref (s.heap.objs.size + 1)) { s with heap := sortedAll s.heap vs out.toArray }) :
    wpAny (model prog w) A (call (.builtin "sorted") [.ref l]) Q E s := by
  rcases hl with hl | hl
  · exact SrtO.sorted_ord O hl hz hS h
  refine Calls.call_function_entry kind_sorted plain_sorted entry_sorted (args_sorted1 _) ?_
  unfold Builtin.«sorted»
  refine wpAny_bind (m := checkCount "sorted" 1 1 _) (wpAny_pure ?_)
  refine wpAny_bind (collect_tup hl ?_ hz)
  refine wpAny_bind (wpAny_newList ?_ hz)
  have hsz : ((s.heap.push (seqObj "list" #[] 0)).update s.heap.objs.size (Obj.mapSeq (· ++ vs.toArray))).objs.size = s.heap.objs.size + 1 := by
    rw [Heap.size_update, size_push']
  have atL : (((s.heap.push (seqObj "list" #[] 0)).update s.heap.objs.size (Obj.mapSeq (· ++ vs.toArray))).push (seqObj "list" vs.toArray 0)).get? (s.heap.objs.size + 1) = some (seqObj "list" vs.toArray 0) := by
    rw [← hsz]; exact Heap.get?_push_size _ rfl
  have old : ∀ b o, s.heap.get? b = some o → b ≠ s.heap.objs.size + 1 ∧ (((s.heap.push (seqObj "list" #[] 0)).update s.heap.objs.size (Obj.mapSeq (· ++ vs.toArray))).push (seqObj "list" vs.toArray 0)).get? b = some o := by
    intro b o q
    have lt := Heap.lt_size q
    refine ⟨Nat.ne_of_lt (Nat.lt_succ_of_lt lt), Heap.get?_push_of_some _ ?_⟩
    rw [Heap.get?_update_ne _ _ _ _ (Nat.ne_of_lt lt)]
    exact Heap.get?_push_of_some _ q
  show wpAny _ _ _ _ _ { s with heap := ((s.heap.push (seqObj "list" #[] 0)).update s.heap.objs.size (Obj.mapSeq (· ++ vs.toArray))).push (seqObj "list" vs.toArray 0) }
  rw [hsz]
  refine wpAny_bind (wpAny_holding (wpAny_call_entry slot_list_sort ⟨_, atL, rfl⟩ entry_list_sort (SrtO.list_sort_ord O atL hz (fun h2 => hS h2 _ _ atL old) fun out h1 h2 => ⟨_, rfl, ?_⟩) (args_list_sort _)))
  exact wpAny_pure ⟨_, rfl, h out h1 h2⟩
end
def rSortTup (K : PySem.W.Frag) : List V → Hp → VK → Prop := fun vs H Q => ∃ (a : Addr) (xs : List V) (k : V → List Key) (τ : List Bool), vs = [V.ref a] ∧ (SqL K H a xs ∨ SqT K H a xs) ∧ τ.head? = some true ∧
  (∀ x ∈ xs, ∃ t, x = V.ref t ∧ SqT K H t ((k x).map kV) ∧ (k x).map tyK = τ) ∧ ∀ ys p, SrtO.Srtd (fun x y => lLt (k x) (k y)) ys → ys.Perm xs → H p = none → Q (.ref p) (upd H p (.lst ys))
section
variable {X : Cx}
theorem cr_sortTup : CallR X (.builtin "sorted") (rSortTup X.K) := by
  intro pins s σ H vs us Q I r h
  obtain ⟨a, xs, k, τ, rfl, hs, hτ, hx, q⟩ := h
  obtain ⟨its, rv, hl, hz⟩ : ∃ its : List Value, Vals xs its ∧ (s.heap.IsList a its.toArray ∨ s.heap.IsTuple a its.toArray) ∧ xs.length ≤ sizeLine := by
    rcases hs with hs | hs
    · obtain ⟨its, rv, hl, hz⟩ := I.list hs
      exact ⟨its, rv, .inl hl.isList, hz⟩
    · obtain ⟨its, rv, hl, hz⟩ := I.tuple hs
      exact ⟨its, rv, .inr hl, hz⟩
  obtain ⟨u, rfl, ru⟩ := vals1 r
  obtain rfl : u = Value.ref a := ru
  obtain ⟨e1, e2⟩ := refs_back rv fun x m => by
    obtain ⟨t, e, _⟩ := hx x m
    exact ⟨t, e⟩
  have at_v : ∀ v ∈ its, TupAt s.heap v (k (backV v)) ∧ (k (backV v)).map tyK = τ := fun v hv => by
    obtain ⟨t, rfl⟩ := e2 v hv
    have hm : V.ref t ∈ xs := by rw [e1]; exact List.mem_map.mpr ⟨_, hv, rfl⟩
    obtain ⟨t', e, ht, hty⟩ := hx _ hm
    cases e
    obtain ⟨its2, r2, ⟨o, ho, hc, n, hd⟩, _⟩ := I.tuple ht
    exact ⟨⟨t, o, its2, n, rfl, ho, hc, hd, r2⟩, hty⟩
  refine sorted_any (swo_l fun v => k (backV v)) hl (by rw [← rv.length]; exact hz) (fun h2 h₁ b hb kk => ?_) fun out h1 h2 => ?_
  · refine tups_sortable (s := { s with heap := h₁ }) (k := fun v => k (backV v)) hτ (by omega) (fun v hm => ⟨(at_v v hm).1.keeps fun c o e _ => (kk c o e).2, (at_v v hm).2⟩) fun o e => ?_
    have e' : some o = some (seqObj "list" its.toArray 0) := e.symm.trans hb
    cases e'
    intro c
    exact absurd (Value.type.inj c) (by decide)
  · have h3 : ∀ u ∈ out, ∃ a, u = Value.ref a := fun u hu => e2 u (h2.perm.mem_iff.mp hu)
    obtain ⟨n, hn⟩ := sortedAll_at s.heap its out.toArray
    have hp : (out.map backV).Perm xs := by rw [e1]; exact h2.perm.map backV
    have hfr : H (s.heap.objs.size + 1) = none := I.hok.fresh (Nat.le_succ _)
    refine ⟨.ref (s.heap.objs.size + 1), upd H (s.heap.objs.size + 1) (.lst (out.map backV)), I.laid (t' := s.toks) (fun b o e => sortedAll_old e) (Nat.le_succ _) ⟨?_, out, n, vals_back h3, hn⟩, rfl, q _ _ (SrtO.srtd_map h1) hp hfr⟩
    rw [hp.length_eq]
    exact hz
theorem k_sortTup {K : PySem.W.Frag} (h : X.K = K) : CallR X (.builtin "sorted") (rSortTup K) := by subst h; exact cr_sortTup
end
end Gd

set_option Elab.async false
set_option linter.all false
set_option maxRecDepth 100000
set_option maxHeartbeats 4000000
/-! sets of whole numbers and texts, with their members told as a list; set(list | tuple); sorted(set) of texts -/
namespace Gd
open PySem PySem.Spec PyProof.Rows L2
def kOf : Value → Key
  | .int k _ => .inl k
  | .str x _ => .inr x
  | _ => .inl 0
theorem kOf_is : ∀ {k : Key} {v : Value}, keyIs k v = true → kOf v = k := fun {k v} h => by
  rcases keyIs_shape h with ⟨i, t, rfl, rfl⟩ | ⟨x, t, rfl, rfl⟩ <;> rfl
theorem keyIs_scan {k : Key} {v : Value} (h : keyIs k v = true) : v.scannable = true := by
  rcases keyIs_shape h with ⟨i, t, rfl, rfl⟩ | ⟨x, t, rfl, rfl⟩ <;> rfl
abbrev mixK (P : Program) (w : World) : PySem.KeyKind P w Key := mixKind P w
def ek (e : Int × Value) : Key := kOf e.2
/-- the set at a holds D, each member once -/
structure Mem (P : Program) (w : World) (h : Heap) (a : Addr) (D : List Key) : Prop where
  nd : D.Nodup
  sml : D.length < scanBound
  ex : ∃ o es ep t, h.get? a = some o ∧ o.ExactSet ∧ o.data = .set es ep t ∧ ElemsOf (mixK P w) es.toList ∧ (es.toList.map ek).Perm D ∧ t.fits es.size = true ∧ Ris t.place.toList ∧ (w.params.followText "set-order" = true ∨ t.led = true)
section
variable {P : Program} {w : World} {h h' : Heap} {a : Addr} {D : List Key}
theorem Mem.to (M : Mem P w h a D) (k : ∀ o, h.get? a = some o → h'.get? a = some o) : Mem P w h' a D := by
  obtain ⟨n, z, o, es, ep, t, ho, r⟩ := M
  exact ⟨n, z, o, es, ep, t, k o ho, r⟩
theorem Mem.obj (M : Mem P w h a D) : ∃ o, h.get? a = some o := by
  obtain ⟨_, _, o, _, _, _, ho, _⟩ := M
  exact ⟨o, ho⟩
theorem el_is {l : List (Int × Value)} (el : ElemsOf (mixK P w) l) {e : Int × Value} (he : e ∈ l) : keyIs (ek e) e.2 = true := by
  obtain ⟨⟨k, hk, _⟩, _⟩ := el e he
  have hk : keyIs k e.2 = true := hk
  unfold ek
  rw [kOf_is hk]
  exact hk
theorem el_mem {l : List (Int × Value)} (el : ElemsOf (mixK P w) l) (k : Key) : k ∈ l.map ek ↔ ∃ e ∈ l, (mixK P w).is k e.2 = true := by
  rw [List.mem_map]
  exact ⟨fun ⟨e, he, q⟩ => ⟨e, he, q ▸ el_is el he⟩, fun ⟨e, he, q⟩ => ⟨e, he, kOf_is (show keyIs k e.2 = true from q)⟩⟩
end
instance memDec (k : Key) : (D : List Key) → Decidable (k ∈ D)
  | [] => .isFalse (by simp)
  | x :: r => if e : k = x then .isTrue (by rw [e]; exact List.mem_cons_self) else
    match memDec k r with
    | .isTrue m => .isTrue (List.mem_cons_of_mem _ m)
    | .isFalse m => .isFalse fun z => (List.mem_cons.mp z).elim e m
/-- one member more -/
def addK (D : List Key) (k : Key) : List Key := if k ∈ D then D else D ++ [k]
theorem addK_nd {D : List Key} (h : D.Nodup) (k : Key) : (addK D k).Nodup := by
  unfold addK
  split
  · exact h
  · rename_i c
    rw [List.nodup_append]
    refine ⟨h, by simp, fun x hx y hy e => ?_⟩
    rw [List.mem_singleton] at hy
    exact c (hy ▸ e ▸ hx)
theorem addK_mem {D : List Key} {k x : Key} : x ∈ addK D k ↔ x ∈ D ∨ x = k := by
  unfold addK
  split
  · rename_i c
    exact ⟨.inl, fun z => z.elim id fun e => e ▸ c⟩
  · simp
theorem addK_len {D : List Key} {k : Key} : (addK D k).length ≤ D.length + 1 := by
  unfold addK
  split
  · omega
  · simp
section
variable {P : Program} {w : World} {A : Around} {E : Value → Shared → Prop} {s : Shared} {a : Addr} {D : List Key}
/-- the tail of an add -/
theorem mem_tail {g : Bool → Sem Unit} (hg : ∀ b s₁ (Q' : Unit → Shared → Prop), Q' () s₁ → wpAny (model P w) A (g b) Q' E s₁) {o : Obj} {es e1 : Array (Int × Value)} {ep : Nat} {t t1 : SetTable}
    (ho : s.heap.get? a = some o) (hx : o.ExactSet) (hd : o.data = .set es ep t) (el : ElemsOf (mixK P w) e1.toList) (pD : (e1.toList.map ek).Perm D) (nD : D.Nodup) (zD : D.length < scanBound)
    (hf : t1.fits e1.size = true) (hr : Ris t1.place.toList) (hl : w.params.followText "set-order" = true ∨ t1.led = true) {wd : Bool} {R : Option Bool → Shared → Prop}
    (hR : ∀ h', Heap.SameBut a s.heap h' → Mem P w h' a D → R (some true) { s with heap := h' }) :
    wpAny (model P w) A (do storeSet a e1 t1
                            if (!wd && t1.tooFull) = true then do
                              g (relayAll t1 e1 (SetTable.grown e1.size)).2.2
                              storeSet a (relayAll t1 e1 (SetTable.grown e1.size)).1 (relayAll t1 e1 (SetTable.grown e1.size)).2.1; pure (some true)
                            else pure (some true)) R E s := by
  have z1 : e1.size < scanBound := by
    have q := pD.length_eq
    rw [List.length_map, Array.length_toList] at q
    rw [q]; exact zD
  refine wpAny_bind (wpAny_storeSet_of ho hd ?_ (fits_of_scanBound z1))
  have p1 := store_at (es' := e1) (t' := t1) ho hd
  have b1 := Heap.SameBut.update s.heap a (Obj.putSet e1 t1)
  split
  · have pm := relayAll_perm t1 e1 (SetTable.grown e1.size)
    have f3 := relayAll_fits t1 e1 (SetTable.grown e1.size)
    have r3 := relayAll_ris t1 e1 (SetTable.grown e1.size)
    have l3 := relayAll_led t1 e1 (SetTable.grown e1.size)
    generalize relayAll t1 e1 (SetTable.grown e1.size) = Z at pm f3 r3 l3 ⊢
    obtain ⟨e2, t3, gv⟩ := Z
    dsimp only at pm f3 r3 l3 ⊢
    have z2 : e2.size < scanBound := by
      rw [← Array.length_toList, pm.length_eq, Array.length_toList]; exact z1
    refine wpAny_bind (hg _ _ _ ?_)
    refine wpAny_bind (wpAny_storeSet_of p1 rfl ?_ (fits_of_scanBound z2))
    have p2 := store_at (es' := e2) (t' := t3) p1 rfl
    exact wpAny_pure (hR _ (b1.trans (Heap.SameBut.update _ a _)) ⟨nD, zD, _, e2, _, t3, p2, hx, rfl, el.perm pm, (pm.map ek).trans pD, f3, r3, hl.imp id fun z => by rw [l3]; exact z⟩)
  · exact wpAny_pure (hR _ b1 ⟨nD, zD, _, e1, _, t1, p1, hx, rfl, el, pD, hf, hr, hl⟩)
theorem mem_add {k : Key} {u : Value} {Q : Bool → Shared → Prop} (hu : keyIs k u = true) (M : Mem P w s.heap a D) (room : D.length + 1 < scanBound)
    (hQ : ∀ (b : Bool) h', Heap.SameBut a s.heap h' → Mem P w h' a (addK D k) → Q b { s with heap := h' }) : wpAny (model P w) A (setAddHashed a u ((mixK P w).hash k)) Q E s := by
  obtain ⟨nd, sml, o, es, ep, t, ho, hx, hd, el, pD, hf, hr, hl⟩ := M
  have zes : es.size = D.length := by
    have q := pD.length_eq
    rw [List.length_map, Array.length_toList] at q
    exact q
  have zb : es.size < scanBound := by rw [zes]; exact sml
  have kis : (mixK P w).is k u = true := hu
  unfold setAddHashed setAddHashedIn
  refine wpAny_holding (wpAny_bind (wpAny_setState_of ho hd hf ?_))
  dsimp only
  rw [byScan_of (keyIs_scan hu) zb el]
  simp only [↓reduceIte]
  unfold setAddByScan
  refine wpAny_bind (wpAny_bind (wpAny_rule ?_))
  refine wpAny_bind (wpAny_setScan_of kis ho hd hf el ?_)
  cases hfi : List.findIdx? (fun e => (mixK P w).is k e.2) es.toList with
  | some j =>
    dsimp only
    obtain ⟨hj, pj, _⟩ := List.findIdx?_eq_some_iff_getElem.mp hfi
    have hm : k ∈ D := pD.mem_iff.mp ((el_mem (P := P) (w := w) el k).2 ⟨es.toList[j], List.getElem_mem hj, pj⟩)
    have eD : addK D k = D := if_pos hm
    refine wpAny_pure (wpAny_pure ?_)
    have q := hQ false s.heap (Heap.SameBut.refl a s.heap) (by rw [eD]; exact ⟨nd, sml, o, es, ep, t, ho, hx, hd, el, pD, hf, hr, hl⟩)
    exact q
  | none =>
    dsimp only
    have nm : k ∉ D := fun z => by
      obtain ⟨e, he, q⟩ := (el_mem (P := P) (w := w) el k).1 (pD.mem_iff.mpr z)
      have c := List.findIdx?_eq_none_iff.mp hfi e he
      rw [q] at c
      cases c
    have eD : addK D k = D ++ [k] := if_neg nm
    have gw : ∀ (b : Bool) s₁ (Q' : Unit → Shared → Prop), Q' () s₁ → wpAny (model P w) A (match b with | true => rule "set.scan.the-table-gave-way" | false => pure ()) Q' E s₁ :=
      fun b _ _ q => match b with | true => wpAny_rule q | false => wpAny_pure q
    have pm := layNew_perm t es ((mixK P w).hash k) u
    have f1 := layNew_fits t es ((mixK P w).hash k) u
    have r1 := layNew_ris t es ((mixK P w).hash k) u hr
    have l1 := layNew_led t es ((mixK P w).hash k) u
    generalize layNew t es ((mixK P w).hash k) u = Z at pm f1 r1 l1 ⊢
    obtain ⟨e1, t1, wd, gv⟩ := Z
    dsimp only at pm f1 r1 l1 ⊢
    rw [Array.toList_push] at pm
    have el1 : ElemsOf (mixK P w) e1.toList := (el.push (k := k) (x := u) kis (keyIs_scan hu)).perm pm
    have pk : (e1.toList.map ek).Perm (addK D k) := by
      refine (pm.map ek).trans ?_
      rw [eD, List.map_append]
      refine pD.append ?_
      rw [show [((mixK P w).hash k, u)].map ek = [k] by show [kOf u] = [k]; rw [kOf_is hu]]
    have nd1 := addK_nd nd k
    have z1 : (addK D k).length < scanBound := Nat.lt_of_le_of_lt addK_len room
    have led1 : w.params.followText "set-order" = true ∨ t1.led = true := hl.imp id fun z => by rw [l1]; exact z
    refine wpAny_bind (gw _ _ _ ?_)
    split
    · refine wpAny_bind ?_
      rw [hashByValue_scannable 8 (keyIs_scan hu)]
      refine wpAny_pure ?_
      refine mem_tail gw ho hx hd el1 pk nd1 z1 ?_ ?_ ?_ ?_
      · first | (split <;> first | exact f1 | exact SetTable.fits_plain_off f1) | exact f1
      · first | (split <;> exact r1) | exact r1
      · first | (split <;> exact led1) | exact led1
      · exact fun h' sb r => wpAny_pure (hQ true h' sb r)
    · refine wpAny_bind (wpAny_pure ?_)
      simp only [↓reduceIte]
      exact mem_tail gw ho hx hd el1 pk nd1 z1 f1 r1 led1 fun h' sb r => wpAny_pure (hQ true h' sb r)

/-! ### set(xs) -/
def fs0 (w : World) : Obj := { cls := .type "set", dict := none, data := .set #[] 0 (.fresh 0 0 (!w.params.followText "set-order")) }
theorem fs0_mem {h : Heap} (ho : h.get? a = some (fs0 w)) : Mem P w h a [] :=
  ⟨.nil, by decide, fs0 w, #[], 0, .fresh 0 0 (!w.params.followText "set-order"), ho, ⟨rfl, rfl, rfl⟩, rfl, fun e he => by simp at he, .refl _, rfl, .nil, by
    show _ ∨ (!w.params.followText "set-order") = true
    cases w.params.followText "set-order"
    · exact .inr rfl
    · exact .inl rfl⟩
/-- the members that a row of keys brings -/
def gath : List Key → List Key → List Key
  | D, [] => D
  | D, k :: r => gath (addK D k) r
theorem gath_len : ∀ (ks D : List Key), (gath D ks).length ≤ D.length + ks.length
  | [], D => Nat.le_refl _
  | k :: r, D => by
    have a := gath_len r (addK D k)
    have b := addK_len (D := D) (k := k)
    simp only [gath, List.length_cons]
    omega
theorem gath_mem : ∀ {ks D : List Key} {x : Key}, x ∈ gath D ks ↔ x ∈ D ∨ x ∈ ks
  | [], D, x => by simp [gath]
  | k :: r, D, x => by
    rw [gath, gath_mem, addK_mem, List.mem_cons, or_assoc]
theorem gath_nd : ∀ (ks : List Key) {D : List Key}, D.Nodup → (gath D ks).Nodup
  | [], _, h => h
  | k :: r, _, h => gath_nd r (addK_nd h k)
theorem upd_keys {I : Addr} {fp wr : List Addr} {G : Array GenState → Array GenState → Prop} {n : Nat} {Pv : Nat → Value → Prop} {St : Nat → Shared → Prop} {R : Result → Shared → Prop} (W : WalksS P w A.in1 I fp wr G n Pv St)
    (S : Addr) (hSf : S ∉ fp) : ∀ (ks : List Key) (i : Nat) (D : List Key) (s : Shared), i + ks.length = n → (∀ j v, Pv j v → i ≤ j → ∃ k, ks[j - i]? = some k ∧ keyIs k v = true) → D.length + ks.length + 1 < scanBound → St i s → Mem P w s.heap S D →
      (∀ s', Moved (S :: wr) G s s' → Mem P w s'.heap S (gath D ks) → R (.ok (.ret .none)) s') → codeAny (model P w) A (.builtin "set.update.loop" ⟨[.ref S, .ref I], []⟩) R s
  | [], i, D, s, hi, _, _, st, M, hR => by
    have hw : S ∉ wr := fun z => hSf (W.sub _ z)
    have e : i = n := by simpa using hi
    subst e
    refine codeAny_builtin F.entry_set_update_loop ?_
    rw [Around.under_plainId F.plain_set_update_loop _]
    show wpAny _ A.in1 (pyNext (.ref I) >>= _) _ _ s
    refine wpAny_bind (W.done s _ _ st fun s' hm => ?_)
    exact wpAny_pure (hR s' (hm.mono fun b hb => List.mem_cons_of_mem _ hb) (M.to fun o e => hm.heap S o hw e))
  | k :: r, i, D, s, hi, hv, hb, st, M, hR => by
    have hw : S ∉ wr := fun z => hSf (W.sub _ z)
    rw [List.length_cons] at hi hb
    refine codeAny_builtin F.entry_set_update_loop ?_
    rw [Around.under_plainId F.plain_set_update_loop _]
    show wpAny _ A.in1 (pyNext (.ref I) >>= _) _ _ s
    refine wpAny_bind (W.item i s _ _ (by omega) st fun v s1 hP st1 hm => ?_)
    obtain ⟨k', ek', hk'⟩ := hv i v hP (Nat.le_refl i)
    rw [Nat.sub_self] at ek'
    have ekk : k = k' := Option.some.inj ek'
    subst ekk
    have M1 : Mem P w s1.heap S D := M.to fun o e => hm.heap S o hw e
    show wpAny _ A.in1 (holding [v] (setAdd S v) >>= _) _ _ s1
    refine wpAny_bind (wpAny_holding ?_)
    unfold setAdd
    refine wpAny_holding (wpAny_bind ((mixK P w).pyHash (k := k) hk' ?_))
    refine mem_add (s := { s1 with toks := s1.toks + 1 }) hk' M1 (by omega) fun b h' sb M2 => ?_
    have kept : ∀ b ∈ fp, ∀ o, s1.heap.get? b = some o → h'.get? b = some o := fun b hb o e => by
      rw [sb.2 b fun z => hSf (z ▸ hb)]; exact e
    refine wpAny_pure ⟨plainId_quiet F.plain_set_update_loop _, upd_keys W S hSf r (i + 1) (addK D k) _ (by omega) (fun j v hp hj => ?_) (by have := addK_len (D := D) (k := k); omega) (W.frame _ s1 _ _ st1 (Nat.le_succ _) kept) M2 fun s2 hm2 M3 => ?_⟩
    · obtain ⟨q, eq, hq⟩ := hv j v hp (by omega)
      rw [show j - i = (j - (i + 1)) + 1 by omega] at eq
      exact ⟨q, eq, hq⟩
    · refine hR s2 (Moved.trans W.gtrans ((hm.mono fun b hb => List.mem_cons_of_mem _ hb).then_heap (Nat.le_succ _) fun b o hb e => ?_) hm2) M3
      rw [sb.2 b fun z => hb (z ▸ List.mem_cons_self)]; exact e
end
end Gd

set_option Elab.async false
set_option linter.all false
set_option maxRecDepth 100000
set_option maxHeartbeats 4000000
/-! sets of whole numbers and texts, with their members told as a list; set(list | tuple); sorted(set) of texts -/
namespace Gd
open PySem PySem.Spec PyProof.Rows L2
section
variable {P : Program} {w : World} {A : Around} {E : Value → Shared → Prop} {s : Shared}
/-- what the set holds when it is made of the keys ks -/
def Full (P : Program) (w : World) (s : Shared) (ks : List Key) (s2 : Shared) : Prop := ∃ h' tk, s2 = { s with heap := h', toks := tk } ∧ Mem P w h' s.heap.objs.size (gath [] ks) ∧ ∀ b o, s.heap.get? b = some o → h'.get? b = some o
theorem set_of_list {l : Addr} {its : Array Value} {ks : List Key} {Q : Value → Shared → Prop} (hh : A.handled = none) (hl : s.heap.IsList l its) (hv : ∀ (j : Nat) (v : Value), its[j]? = some v → ∃ k, ks[j]? = some k ∧ keyIs k v = true) (hn : its.size = ks.length)
    (hb : ks.length + 1 < scanBound) (h : ∀ s2, Full P w s ks s2 → Q (.ref s.heap.objs.size) s2) : wpAny (model P w) A (call (.type "set") [.ref l]) Q E s := by
  obtain ⟨c, tl, hmro⟩ := F.called_set.mro
  have hmd := F.called_set.made; have hsb := F.called_set.sub
  refine wpAny_call (codeAny_of_tree ?_)
  show wpAny _ _ (callAny (.type "set") _) _ _ _
  refine wpAny_pure ⟨Code.quiet_builtin _ (by decide +kernel), codeAny_builtin F.entry_type_call ?_⟩
  rw [Around.under_plain (weight_type_call_type "set" [.ref l] []) rfl]
  have g1 := F.called_set.notType; have g2 := F.called_set.canCreate; have g3 := F.typeCall_set_1 (.ref l)
  repeat (any_goals (first | assumption | wp_step))

  refine codeAny_mono (code_set_led1 (.ref l) (E := E) (Q₁ := fun x s1 => x = .ref s.heap.objs.size ∧ s1 = { s with heap := s.heap.push (fs0 w) }) ⟨rfl, rfl⟩) fun r s1 hr => ?_
  rcases r with e | fl
  · exact hr
  cases fl with
  | ret x =>
    obtain ⟨rfl, rfl⟩ := hr
    have oS : (s.heap.push (fs0 w)).get? s.heap.objs.size = some (fs0 w) := Heap.get?_push_size _ rfl
    have hT : Shared.TypeIs { s with heap := s.heap.push (fs0 w) } (.ref s.heap.objs.size) "set" := ⟨_, oS, rfl⟩
    have k1 := F.called_set.init.lookup; have k2 := F.called_set.init.bind (.ref s.heap.objs.size)
    repeat (any_goals (first | assumption | wp_step))

    refine codeAny_mono (codeAny_call_builtin (R := wants (fun r s2 => r = .none ∧ Full P w s ks s2) E) F.called_set.init.plain F.entry_set_init (check_set_init_1 hT ?_)) fun r2 s2 hr2 => ?_
    · obtain ⟨⟨oc, odd, oda, osl⟩, hol, hcl, nl, hdl⟩ := hl
      simp only at hcl hdl
      subst hcl; subst hdl
      have olp : (s.heap.push (fs0 w)).get? l = some { cls := .type "list", dict := odd, data := .seq its nl, slots := osl } := Heap.get?_push_of_some _ hol
      have q1 := F.sub_list_set; have q2 := F.sub_list_frozenset; have q3 : (Value.type "list" == Value.type "dict") = false := by decide
      have hl1 : (s.heap.push (fs0 w)).IsList l its := ⟨_, olp, rfl, nl, rfl⟩
      unfold Builtin.«set.__init__» noKeywords Builtin.Frozenset.updateFrom
      generalize hPI : pyIter = PI
      wp_walk
      subst hPI

      refine wpAny_pyIter_list hl1 (wpAny_bind (wpAny_runValue ?_))
      have hlS : l < s.heap.objs.size := Heap.lt_size hol
      have zp : (s.heap.push (fs0 w)).objs.size = s.heap.objs.size + 1 := Heap.size_push ..
      have nI : l ≠ (s.heap.push (fs0 w)).objs.size := by rw [zp]; exact Nat.ne_of_lt (Nat.lt_succ_of_lt hlS)
      have hSf : s.heap.objs.size ∉ [(s.heap.push (fs0 w)).objs.size, l] := by
        rw [zp]; simp only [List.mem_cons, List.not_mem_nil, or_false, not_or]; exact ⟨Nat.ne_of_lt (Nat.lt_succ_self _), Nat.ne_of_gt hlS⟩
      refine upd_keys ((Walks.list (show A.in1.in1.in1.handled = none by simp [hh]) _ l nI its).toS) s.heap.objs.size hSf ks 0 [] _ (by rw [hn]; omega) (fun j v hp _ => hv j v hp) (by simp; omega)
        ⟨⟨_, Heap.get?_push_size _ rfl, rfl, rfl⟩, hl1.push _⟩ (fs0_mem (Heap.get?_push_of_some _ oS)) fun s' hm M => ?_
      obtain ⟨h', gg, dd, tk', oo⟩ := s'
      have e1 : gg = s.gens := hm.gens
      have e2 : dd = s.drawn := hm.drawn
      have e3 : oo = s.os := hm.os
      subst e1; subst e2; subst e3
      show wpAny _ _ _ _ _ _
      refine wpAny_pure ?_
      show wpAny _ _ (ret Value.none) _ _ _
      refine wpAny_pure ⟨rfl, h', tk', rfl, M, fun b o e => ?_⟩
      have lb : b < s.heap.objs.size := Heap.lt_size e
      refine hm.heap b o (fun z => ?_) (Heap.get?_push_of_some _ (Heap.get?_push_of_some _ e))
      simp only [List.mem_cons, List.not_mem_nil, or_false] at z
      rw [zp] at z
      exact z.elim (Nat.ne_of_lt lb) (Nat.ne_of_lt (Nat.lt_succ_of_lt lb))
    · rcases r2 with e | f2
      · exact hr2
      cases f2 with
      | ret r =>
        obtain ⟨rfl, hF⟩ := hr2
        repeat (any_goals (first | assumption | wp_step))
        exact h _ hF
      | _ => exact hr2.elim
  | _ => exact hr.elim
end
end Gd

set_option Elab.async false
set_option linter.all false
set_option maxRecDepth 100000
set_option maxHeartbeats 4000000
/-! set(list) and sorted(set) of texts, as rules -/
namespace Gd
open PySem PySem.Spec PyProof.Rows L2
def SetM (P : Program) (w : World) (a : Addr) (D : List Key) : HO := .ext fun h => Mem P w h a D
def sOf : Key → Str
  | .inr x => x
  | .inl _ => Str.empty
theorem setM_new {P : Program} {w : World} {H : Hp} {h : Heap} {a : Addr} {D : List Key} (M : Mem P w h a D) : ObjOk P w H h a (SetM P w a D) := ⟨M, M.obj, fun _ _ p k => p.to k⟩
section
variable {X : Cx}
theorem setM_get {pins : List (Addr × Obj)} {σ : L2.St} {H : Hp} {s : Shared} {a : Addr} {D : List Key} (I : Inv X pins σ H s) (e : H a = some (SetM X.prog X.w a D)) : Mem X.prog X.w s.heap a D := (I.hok a _ e).1
theorem kV_keyIs {k : Key} {u : Value} (r : RelV (kV k) u) : keyIs k u = true := by
  cases k with
  | inl i =>
    obtain ⟨t, rfl⟩ := r
    exact keyIs_int i t
  | inr x =>
    obtain ⟨t, rfl⟩ := r
    exact keyIs_str x t
def rSetM (K : PySem.W.Frag) (P : Program) (w : World) : List V → Hp → VK → Prop := fun xs H Q => ∃ (l : Addr) (ks : List Key), xs = [.ref l] ∧ SqL K H l (ks.map kV) ∧ ks.length + 1 < scanBound ∧ ∀ p, H p = none → Q (.ref p) (upd H p (SetM P w p (gath [] ks)))
theorem cr_setM (hc : X.calm = true) : CallR X (.type "set") (rSetM X.K X.prog X.w) := by
  intro pins s σ H xs us Q I r h
  obtain ⟨l, ks, rfl, hS, hb, q⟩ := h
  rw [Vals.ref1 r]
  obtain ⟨its, rv, ⟨ol, nl, gl, cl, _, dl⟩, _⟩ := I.list hS
  have il : s.heap.IsList l its.toArray := ⟨ol, gl, cl, nl, dl⟩
  have ln : ks.length = its.length := by rw [← List.length_map (f := kV)]; exact rv.length
  refine set_of_list (ks := ks) (I.ok.hd hc) il (fun j v e => ?_) (by rw [List.size_toArray]; exact ln.symm) hb fun s2 hF => ?_
  · rw [List.getElem?_toArray] at e
    have hj : j < its.length := (List.getElem?_eq_some_iff.mp e).1
    have hk : ks[j]? = some ks[j] := List.getElem?_eq_getElem (by omega)
    obtain ⟨u, eu, ru⟩ := rv.get (show (ks.map kV)[j]? = some (kV ks[j]) by rw [List.getElem?_map, hk]; rfl)
    rw [e] at eu
    cases eu
    exact ⟨_, hk, kV_keyIs ru⟩
  · obtain ⟨h', tk, rfl, M, kp⟩ := hF
    exact ⟨.ref _, _, I.laid (t' := tk) kp (Nat.le_refl _) (setM_new M), rfl, q _ (I.hok.fresh (Nat.le_refl _))⟩
theorem strs_out : ∀ (us : List Value) , (∀ u ∈ us, ∃ z, keyIs (.inr z) u = true) → StrsAre us (us.map fun u => sOf (kOf u))
  | [], _ => .nil
  | u :: us, h => by
    obtain ⟨z, hz⟩ := h u List.mem_cons_self
    rcases keyIs_shape hz with ⟨i, t, e, _⟩ | ⟨x, t, e, rfl⟩
    · cases e
    · exact .cons x t (strs_out us fun u hu => h u (List.mem_cons_of_mem _ hu))
/-- sorted(found), found a set of texts, fewer than 64 of them -/
def rSortM (P : Program) (w : World) : List V → Hp → VK → Prop := fun vs H Q => ∃ (a : Addr) (zs : List Str), vs = [V.ref a] ∧ H a = some (SetM P w a (zs.map .inr)) ∧ zs.length < 64 ∧
  ∀ (ys : List Str) (p : Addr), ys.Perm zs → sortedS ys = true → H p = none → Q (.ref p) (upd H p (.lst (ys.map V.str)))
theorem cr_sortM (hc : X.calm = true) : CallR X (.builtin "sorted") (rSortM X.prog X.w) := by
  intro pins s σ H vs us Q I r h
  obtain ⟨a, zs, rfl, ha, h64, q⟩ := h
  obtain ⟨nd, sml, o, es, ep, t, ho, hx, hd, el, pD, hf, hr, hl⟩ := setM_get I ha
  rw [Vals.ref1 r]
  have ze : es.toList.length = zs.length := by
    have z := pD.length_eq
    rw [List.length_map, List.length_map] at z
    exact z
  have zb : es.size < scanBound := by rw [← Array.length_toList, ze, ← List.length_map (f := (Sum.inr : Str → Key))]; exact sml
  refine Calls.call_function_entry kind_sorted plain_sorted entry_sorted (args_sorted1 _) ?_
  unfold Builtin.«sorted»
  refine wpAny_bind (m := checkCount "sorted" 1 1 _) (wpAny_pure ?_)
  refine wpAny_bind (collect_set (A := X.A.in1) (I.ok.hd hc) ⟨o, ho, hx.1, hd⟩ hf zb hr hl fun s1 vs k1 hz g1 o1 pm => ?_)
  have hvl : vs.length = zs.length := by rw [pm.length_eq, List.length_map]; exact ze
  have perm : (vs.map fun u => sOf (kOf u)).Perm zs := by
    have p1 := (pm.map fun u => sOf (kOf u))
    have p2 := pD.map sOf
    rw [List.map_map] at p1 p2
    refine p1.trans (p2.trans ?_)
    rw [List.map_map, show (sOf ∘ Sum.inr : Str → Str) = id from rfl, List.map_id]
  have hS : StrsAre vs (vs.map fun u => sOf (kOf u)) := strs_out vs fun u hu => by
    obtain ⟨e, he, rfl⟩ := List.mem_map.mp (pm.mem_iff.mp hu)
    have hm : ek e ∈ zs.map Sum.inr := pD.mem_iff.mp (List.mem_map_of_mem he)
    obtain ⟨z, _, ez⟩ := List.mem_map.mp hm
    refine ⟨z, ?_⟩
    rw [ez]
    exact el_is el he
  refine wpAny_bind (wpAny_newList ?_ (by rw [hvl, sizeLine_eq]; omega))
  have hoL : (s1.heap.push (seqObj "list" vs.toArray 0)).get? s1.heap.objs.size = some (seqObj "list" vs.toArray 0) := Heap.get?_push_size _ rfl
  refine wpAny_bind (wpAny_holding (wpAny_call_entry slot_list_sort ⟨_, hoL, rfl⟩ entry_list_sort (list_sort_treeK strKind_oneLt hoL hS.keysOf (fun v₁ v₂ rest e => keyKind_strs (by rw [← e]; exact hS)) (by rw [hvl]; exact h64) fun st' hp hs => ⟨_, rfl, ?_⟩) (args_list_sort _)))
  obtain ⟨ys, b1, b2, b3⟩ := sorted_out_str hS hp hs
  obtain ⟨e', he'⟩ := sortedHeap_at (vs := vs) (out := (arrOf st').map (·.2)) hoL
  have hlen : (ys.map V.str).length ≤ sizeLine := by
    rw [List.length_map, b2.length_eq, List.length_map, hvl]
    exact Nat.le_trans (Nat.le_of_lt h64) (by decide)
  have hn : H s1.heap.objs.size = none := I.hok.fresh hz
  have kp : ∀ b o, s.heap.get? b = some o → (sortedHeap (s1.heap.push (seqObj "list" vs.toArray 0)) s1.heap.objs.size vs ((arrOf st').map (·.2))).get? b = some o := fun b u e => by
    have q := k1 b u e
    have hlt := Heap.lt_size q
    rw [sortedHeap_old (Nat.ne_of_lt hlt) (by rw [size_push']; exact Nat.lt_succ_of_lt hlt)]
    exact Heap.get?_push_of_some _ q
  have new : ObjOk X.prog X.w (upd H s1.heap.objs.size (.lst (ys.map V.str))) _ s1.heap.objs.size (.lst (ys.map V.str)) := ⟨hlen, ((arrOf st').map (·.2)).toList, e', vals_of_strs b1, by rw [Array.toArray_toList]; exact he'⟩
  have J : Inv X pins σ (upd H s1.heap.objs.size (.lst (ys.map V.str))) { s with heap := sortedHeap (s1.heap.push (seqObj "list" vs.toArray 0)) s1.heap.objs.size vs ((arrOf st').map (·.2)), gens := s1.gens, drawn := s1.drawn, toks := s1.toks } :=
    I.call (ch := []) (Un.laid kp hz hn) (I.hok.laid kp hz new) (by rw [g1]; exact I.bare) (fun _ z => nomatch z)
  refine wpAny_pure ⟨_, rfl, ?_⟩
  have ee : ({ s1 with heap := sortedHeap (s1.heap.push (seqObj "list" vs.toArray 0)) s1.heap.objs.size vs ((arrOf st').map (·.2)) } : Shared) = { s with heap := sortedHeap (s1.heap.push (seqObj "list" vs.toArray 0)) s1.heap.objs.size vs ((arrOf st').map (·.2)), gens := s1.gens, drawn := s1.drawn, toks := s1.toks } := by
    cases s1
    cases s
    cases o1
    rfl
  show EP X pins σ Q (.ref s1.heap.objs.size) { s1 with heap := sortedHeap (s1.heap.push (seqObj "list" vs.toArray 0)) s1.heap.objs.size vs ((arrOf st').map (·.2)) }
  rw [ee]
  exact ⟨.ref s1.heap.objs.size, _, J, rfl, q ys _ (b2.trans perm) b3 hn⟩
end
end Gd

set_option Elab.async false
set_option linter.all false
set_option maxRecDepth 100000
set_option maxHeartbeats 4000000
/-! a dict comprehension over a list; texts in their order -/
namespace Gd
open PySem PySem.Spec PyProof.Rows L2
abbrev DcTurn (g : TG) (tt : TT) (tk tv : TE) (vs : List Nat) (σ : L2.St) (D : Addr) (Nx : Hp → Prop) (x : V) (H' : Hp) : Prop := g x (wipe σ vs) H' fun σ2 H2 => wipe σ2 vs = wipe σ vs ∧ tt σ2 H2 fun b H3 =>
  if b = true then tk σ2 H3 fun y H4 => tv σ2 H4 fun z H5 => ∃ kvs k, y = kV k ∧ H5 D = some (.dK kvs) ∧ kvs.length < sizeLine ∧ Nx (upd H5 D (.dK (putK kvs k z))) else Nx H3
theorem dc_list {K : PySem.W.Frag} {a D : Addr} {xs : List V} {g : TG} {tt : TT} {tk tv : TE} {vs : List Nat} {σ : L2.St} {H1 : Hp} {Qd : Hp → Prop} (Pv : Nat → Hp → Prop) (h0 : Pv 0 (upd H1 D (.dK []))) (hq : ∀ i H, Pv i H → SqL K H a xs)
    (hs : ∀ (i : Nat) (x : V) (H : Hp), xs[i]? = some x → Pv i H → DcTurn g tt tk tv vs σ D (Pv (i + 1)) x H) (hd : ∀ H, Pv xs.length H → Qd H) :
    ∃ W : Nat → Nat → Hp → Prop, (∃ m, W 0 m (upd H1 D (.dK []))) ∧ ∀ i m H, W i m H → ((Itl K a).stop i H ∧ Qd H) ∨ ((Itl K a).go i H ∧ ∃ Nx : Hp → Prop, (∀ H', Nx H' → ∃ m', m' < m ∧ W (i + 1) m' H') ∧
      ∀ x H', (Itl K a).yld i H x H' → DcTurn g tt tk tv vs σ D Nx x H') := by
  refine ⟨fun i m H => m + i = xs.length ∧ Pv i H, ⟨xs.length, rfl, h0⟩, fun i m H ⟨hm, p⟩ => ?_⟩
  have q := hq i H p
  by_cases hlt : i < xs.length
  · refine .inr ⟨⟨xs, xs[i], q, List.getElem?_eq_getElem hlt⟩, Pv (i + 1), fun H' p' => ⟨m - 1, by omega, by omega, p'⟩, fun x H' y => ?_⟩
    obtain ⟨rfl, y⟩ := y
    exact hs i x _ (y xs q) p
  · have e : i = xs.length := by omega
    subst e
    exact .inl ⟨⟨xs, q, Nat.le_refl _⟩, hd H p⟩

/-! ### one order of texts -/
theorem str_ext {x y : Str} (h : x.cps.toList = y.cps.toList) : x = y := by
  cases x; cases y
  simp at h
  rw [h]
theorem not_lt_both {a b : List Nat} (h1 : ltCps a b = false) (h2 : ltCps b a = false) : a = b := by
  have e1 : ∀ x y : List Nat, ltCps x y = decide (x < y) := fun x y => by
    first | rfl | exact ltCps_eq x y | exact ltCps_decide x y
  rw [e1] at h1 h2
  have n1 := of_decide_eq_false h1
  have n2 := of_decide_eq_false h2
  exact strKind.total a b (decide_eq_false n1) (decide_eq_false n2)
def leS (x y : Str) : Prop := ltCps y.cps.toList x.cps.toList = false
theorem leS_trans {x y z : Str} (h1 : leS x y) (h2 : leS y z) : leS x z := by
  unfold leS at *
  rw [ltCps_eq] at *
  have k := strKind.negTrans z.cps.toList y.cps.toList x.cps.toList
  cases e : decide (z.cps.toList < x.cps.toList) with
  | false => rfl
  | true =>
    rcases k e with q | q
    · exact absurd (h2.symm.trans q) Bool.false_ne_true
    · exact absurd (h1.symm.trans q) Bool.false_ne_true
theorem leS_anti {x y : Str} (h1 : leS x y) (h2 : leS y x) : x = y := str_ext (not_lt_both h2 h1)
theorem rising_pw : ∀ (l : List Str) (p : Str), risingS p l = true → (∀ x ∈ l, leS p x) ∧ l.Pairwise leS
  | [], p, _ => ⟨fun _ h => (nomatch h), .nil⟩
  | x :: r, p, h => by
    simp only [risingS, Bool.and_eq_true, Bool.not_eq_true'] at h
    obtain ⟨a, b⟩ := rising_pw r x h.2
    refine ⟨fun y hy => ?_, List.pairwise_cons.mpr ⟨a, b⟩⟩
    rcases List.mem_cons.mp hy with rfl | hy
    · exact h.1
    · exact leS_trans h.1 (a y hy)
theorem sortedS_pw {l : List Str} (h : sortedS l = true) : l.Pairwise leS := by
  cases l with
  | nil => exact .nil
  | cons x r => exact List.pairwise_cons.mpr (rising_pw r x h)
theorem pw_one : ∀ {a b : List Str}, a.Perm b → a.Pairwise leS → b.Pairwise leS → a = b
  | [], b, p, _, _ => (List.Perm.nil_eq p)
  | x :: r, [], p, _, _ => (List.Perm.eq_nil p)
  | x :: r, y :: t, p, h1, h2 => by
    obtain ⟨a1, a2⟩ := List.pairwise_cons.mp h1
    obtain ⟨b1, b2⟩ := List.pairwise_cons.mp h2
    have e : x = y := by
      rcases List.mem_cons.mp (p.mem_iff.mp List.mem_cons_self) with e | m1
      · exact e
      · rcases List.mem_cons.mp (p.mem_iff.mpr (List.mem_cons_self (a := y) (l := t))) with e | m2
        · exact e.symm
        · exact leS_anti (a1 y m2) (b1 x m1)
    subst e
    rw [pw_one p.cons_inv a2 b2]
theorem sortedS_one {a b : List Str} (n1 : a.Nodup) (n2 : b.Nodup) (h1 : sortedS a = true) (h2 : sortedS b = true) (hm : ∀ x, x ∈ a ↔ x ∈ b) : a = b :=
  pw_one ((List.perm_ext_iff_of_nodup n1 n2).mpr hm) (sortedS_pw h1) (sortedS_pw h2)
end Gd

set_option Elab.async false
set_option linter.all false
set_option maxRecDepth 100000
set_option maxHeartbeats 4000000
/-! def f(a, .., *v, d = x, ..), called by positions alone -/
namespace Gd
open PySem PySem.Spec PyProof.Rows L2 StX
/-- t looks the names up in the dict at D, one behind another, and goes on as r -/
def KwC {α : Type} (D : Addr) : List (Str × Value) → Sem α → Sem α → Prop
  | [], t, r => t = r
  | q :: l, t, r => ∃ (β γ : Type) (k1 : Option Value → Sem β) (k2 : β → Sem γ) (k3 : γ → Sem α) (a : β), t = ((nsGet D q.1 >>= k1) >>= k2) >>= k3 ∧ k1 (some q.2) = pure a ∧ KwC D l (k2 a >>= k3) r
theorem kwc_run {α : Type} {K : PySem.W.Frag} {M : Model} {D : Addr} {A : Around} {E : Value → Shared → Prop} {Q : α → Shared → Prop} {s : Shared} (kin : K.In s.heap) :
    ∀ {l : List (Str × Value)} {t r : Sem α}, (∀ q ∈ l, PySem.W.nsIn K D q.1 = some (some q.2)) → KwC D l t r → wpAny M A r Q E s → wpAny M A t Q E s
  | [], _, _, _, e, h => by rw [show _ = _ from e]; exact h
  | q :: l, _, _, hl, e, h => by
    obtain ⟨β, γ, k1, k2, k3, a, e1, e2, e3⟩ := e
    have lk : PySem.W.Looks M s.heap (nsGet D q.1 >>= k1) a := (PySem.W.looks_nsIn kin (hl q List.mem_cons_self)).andThen (PySem.W.Looks.of_pure e2)
    rw [e1, bind_assoc]
    exact wpAny_bind (lk.here (kwc_run kin (fun p hp => hl p (List.mem_cons_of_mem _ hp)) e3 h))
section
variable {P : Program} {w : World} {K : PySem.W.Frag} {mg : Str → Option Value} {base : Heap} {k : Nat} {f : Addr} {name qual : Str} {params : Arguments} {body : List Stmt} {scope : Scope} {kws : List (Str × V)} {fd : FuncData} {N ps : List Str} {pv : Str} {sp : Sp}
theorem fn_starD (F : FunD K name qual params body scope [] kws f fd) (hk : kws ≠ []) (S : FnScope N (ps ++ kws.map (·.1) ++ [pv]) scope)
    (hb : ∀ (D : Addr) (doc pm : Value) (an : Option Addr) (cdv ct : Value) (us rest mv : List Value), us.length = ps.length → mv.length = kws.length →
      KwC D ((kws.map (·.1)).zip mv) (bindArgs (PySem.W.fnOf name qual params body scope .none (.ref D) doc pm an cdv ct) ⟨us ++ rest, []⟩) (newTuple rest >>= fun t => pure (ps.zip us ++ (kws.map (·.1)).zip mv ++ [(pv, t)])))
    (bd : ∀ (cdv : Value) (A : Around) (out : List Env) (t : Shared) (G : Hp) (as : List V) (R : VK) (X : XK), Room k (A.deeper (envOfC qual scope t.heap.objs.size f cdv)) → sp as G R X →
      ∃ rd, PSs (cxOf CX0 P w K mg base N qual scope f cdv A out t G X).nox body rd ∧ rd { nx := fun _ G' => R .non G', rt := R } (start N as) G) :
    FnR P w K mg base CX0 (k + 1) f (fun vs H Q E => ∃ ws rest, vs = ws ++ rest ∧ ws.length = ps.length ∧ rest.length ≤ sizeLine ∧ ∀ p, H p = none → sp (ws ++ kws.map (·.2) ++ [.ref p]) (upd H p (.tup rest)) Q E) := by
  obtain ⟨oc, od, dV, kV, doc, pm, an, cdv, ct, osl, rfl, lk, hcd, hD, hK⟩ := F.ex
  rcases hD with ⟨_, rfl⟩ | ⟨e, _⟩
  rotate_left
  · exact absurd rfl e
  rcases hK with e | ⟨D, rfl, hq⟩
  · exact absurd e hk
  obtain ⟨mv, ml, mr, mq⟩ := kwd_vals hq
  intro A out s H us vs Q E hr e0 r hsp
  obtain ⟨ws, rest, rfl, hl, hz, hp⟩ := hsp
  obtain ⟨u1, u2, rfl, r1, r2⟩ := vals_split r
  have kin : K.In s.heap := e0.mod.kin.keeps fun b o e => (e0.bs b o e).1
  have hn : H s.heap.objs.size = none := e0.hok.fresh (Nat.le_refl _)
  have l1 : u1.length = ps.length := by rw [← r1.length]; exact hl
  have l2 : u2.length ≤ sizeLine := by rw [← r2.length]; exact hz
  refine run_bnd (CX := CX0) lk hcd S hr e0 (G := fun xs H2 => ∃ p, H p = none ∧ xs = ws ++ kws.map (·.2) ++ [V.ref p] ∧ H2 = upd H p (.tup rest)) (fun A' Ex Q' h => ?_) fun s2 H2 xs ⟨p, h1, h2, h3⟩ hr' => ?_
  · refine kwc_run kin mq (hb D doc pm an cdv ct u1 u2 mv l1 ml) (wpAny_bind (wpAny_newTuple (wpAny_pure ?_) l2))
    have new : ObjOk P w (upd H s.heap.objs.size (.tup rest)) (s.heap.push ({ cls := .type "tuple", data := .seq u2.toArray } : Obj)) s.heap.objs.size (.tup rest) :=
      ⟨hz, u2, r2, ⟨_, Heap.get?_push_size _ rfl, rfl, _, rfl⟩⟩
    have z := h _ _ (ws ++ kws.map (·.2) ++ [V.ref s.heap.objs.size]) (u1 ++ mv ++ [Value.ref s.heap.objs.size]) (env0_laid e0 new) (un_laid hn) rfl (fun e s' q => q) ((r1.append mr).append (.cons rfl .nil))
      (by simp only [List.length_append, List.length_map, hl]; rfl) ⟨_, hn, rfl, rfl⟩
    rw [List.zip_append (by rw [List.length_append, List.length_append, List.length_map, l1, ml]), List.zip_append (by rw [l1])] at z
    exact z
  · subst h2 h3
    obtain ⟨rd, q1, q2⟩ := bd cdv A out s2 _ _ Q E hr' (hp p h1)
    exact ⟨rd, PSs.nox q1, q2⟩
end
section
variable {X : Cx} {k : Nat} {f : Addr} {sp : Sp} {x : Str} {p pos : Pos} {e : Expr} {es : List Expr} {t : TA}
/-- f(a, ..), by a promise of positions -/
theorem pe_r (F : FnR X.prog X.w X.K X.mg X.base CX0 k f sp) (hr : Room k X.A) (hg : Gl X x) (hm : X.mg x = some (.ref f)) (hk : PySem.W.keepIn X.K (.ref f) = true) (ha : PA X (e :: es) t)
    (hdb : (x == ("__debug__" : Str)) = false := by decide) (hse : starEach (e :: es) X.env = (false, eval e X.env) :: starEach es X.env := by rfl)
    (hno : (backTo pos (starEach es X.env)).any (·.1) = false := by rfl) : PE X (.Call (.Name x p) (e :: es) [] pos) (tCall sp [] E0 t) := by
  refine ⟨fun pins s σ H Q I h => wpAny_Call_Name_kw (ld_glob I hg hm ?_ hdb)⟩
  refine PySem.W.callWith_K (h₀ := X.base) I.ok.mod.kin hk (thn (ha.run pos pins s σ H _ I h) (fun us s1 hz => ?_)) hse hno
  obtain ⟨vs, H1, I1, r, q⟩ := hz
  rw [List.append_nil] at q
  exact ⟨I1.kIn, wpAny_call (run_fnR F hr pass0 I1 r q)⟩
end
end Gd

set_option Elab.async false
set_option linter.all false
set_option maxRecDepth 100000
set_option maxHeartbeats 4000000
/-! a list comprehension over zip of two tuples; one over a dict's keys -/
namespace Gd
open PySem PySem.Spec PyProof.Rows L2 RZ
abbrev LcTurn (g : TG) (tt : TT) (te : TE) (vs : List Nat) (σ : L2.St) (D : Addr) (Nx : Hp → Prop) (x : V) (H' : Hp) : Prop := g x (wipe σ vs) H' fun σ2 H2 => wipe σ2 vs = wipe σ vs ∧ tt σ2 H2 fun b H3 =>
  if b = true then te σ2 H3 fun y H4 => ∃ acc, H4 D = some (.lst acc) ∧ acc.length < sizeLine ∧ Nx (upd H4 D (.lst (acc ++ [y]))) else Nx H3
/-- the two tuples have one length and stay -/
theorem lc_zipT {K : PySem.W.Frag} {a b D : Addr} {xs ys : List V} {g : TG} {tt : TT} {te : TE} {vs : List Nat} {σ : L2.St} {H1 : Hp} {Qd : Hp → Prop} (len : xs.length = ys.length) (Pv : Nat → Hp → Prop) (h0 : Pv 0 (upd H1 D (.lst [])))
    (hq : ∀ i H, Pv i H → SqT K H a xs ∧ SqT K H b ys) (hs : ∀ (i : Nat) (x y : V) (T : Addr) (H : Hp), xs[i]? = some x → ys[i]? = some y → Pv i H → H T = none → LcTurn g tt te vs σ D (Pv (i + 1)) (.ref T) (upd H T (.tup [x, y])))
    (hd : ∀ H, Pv xs.length H → Qd H) :
    ∃ W : Nat → Nat → Hp → Prop, (∃ m, W 0 m (upd H1 D (.lst []))) ∧ ∀ i m H, W i m H → ((ItzT K a b).stop i H ∧ Qd H) ∨ ((ItzT K a b).go i H ∧ ∃ Nx : Hp → Prop, (∀ H', Nx H' → ∃ m', m' < m ∧ W (i + 1) m' H') ∧
      ∀ x H', (ItzT K a b).yld i H x H' → LcTurn g tt te vs σ D Nx x H') := by
  refine ⟨fun i m H => m + i = xs.length ∧ Pv i H, ⟨xs.length, rfl, h0⟩, fun i m H ⟨hm, p⟩ => ?_⟩
  obtain ⟨q1, q2⟩ := hq i H p
  by_cases hlt : i < xs.length
  · refine .inr ⟨⟨xs, ys, _, _, q1, q2, List.getElem?_eq_getElem hlt, List.getElem?_eq_getElem (len ▸ hlt)⟩, Pv (i + 1), fun H' p' => ⟨m - 1, by omega, by omega, p'⟩, fun v H' y => ?_⟩
    obtain ⟨T, x', y', rfl, hT, rfl, f1, f2⟩ := y
    exact hs i x' y' T H (f1 xs q1) (f2 ys q2) p hT
  · have e : i = xs.length := by omega
    subst e
    exact .inl ⟨⟨xs, ys, q1, q2, .inl (Nat.le_refl _)⟩, hd H p⟩
end Gd

set_option Elab.async false
set_option linter.all false
set_option maxRecDepth 100000
set_option maxHeartbeats 4000000
/-! zip of two, each a list or a tuple -/
namespace Gd
open PySem PySem.Spec PyProof.Rows L2
/-- a tuple (true) or a list -/
def SqB (t : Bool) (K : PySem.W.Frag) (H : Hp) (a : Addr) (xs : List V) : Prop := match t with
  | true => SqT K H a xs
  | false => SqL K H a xs
def IsB (t : Bool) (h : Heap) (a : Addr) (its : Array Value) : Prop := match t with
  | true => h.IsTuple a its
  | false => h.IsList a its
def ItB (t : Bool) (h : Heap) (I a : Addr) (i : Nat) : Prop := match t with
  | true => h.IsTupleIter I a i
  | false => h.IsListIter I a i
theorem SqB.inv {X : Cx} {pins : List (Addr × Obj)} {σ : L2.St} {H : Hp} {s : Shared} (t : Bool) (I : Inv X pins σ H s) {a : Addr} {xs : List V} (h : SqB t X.K H a xs) : ∃ its : List Value, Vals xs its ∧ IsB t s.heap a its.toArray ∧ a < s.heap.objs.size := by
  cases t with
  | true => obtain ⟨its, r, p, _⟩ := I.tuple h; obtain ⟨o, ho, _⟩ := id p; exact ⟨its, r, p, Heap.lt_size ho⟩
  | false => obtain ⟨its, r, p, _⟩ := I.list h; exact ⟨its, r, p.isList, p.lt⟩
theorem SqB.inj {X : Cx} {pins : List (Addr × Obj)} {σ : L2.St} {H : Hp} {s : Shared} (t : Bool) (I : Inv X pins σ H s) {a : Addr} {xs ys : List V} (h : SqB t X.K H a xs) (h' : SqB t X.K H a ys) : xs = ys := by
  cases t with
  | true => exact I.tuple_inj h h'
  | false => exact I.list_inj h h'
theorem ItB.get {t : Bool} {h : Heap} {I a : Addr} {i : Nat} (x : ItB t h I a i) : ∃ o, h.get? I = some o ∧ ∀ v, o.data ≠ .cell v := by
  cases t with
  | true => obtain ⟨o, e, _, d⟩ := x; exact ⟨o, e, fun v q => by rw [d] at q; cases q⟩
  | false => obtain ⟨o, e, _, d⟩ := x; exact ⟨o, e, fun v q => by rw [d] at q; cases q⟩
theorem ItB.at {t : Bool} {h h' : Heap} {I a : Addr} {i : Nat} (x : ItB t h I a i) (k : ∀ o, h.get? I = some o → h'.get? I = some o) : ItB t h' I a i := by
  cases t with
  | true => exact Heap.IsTupleIter.at x k
  | false => exact Heap.IsListIter.at x k
theorem drawsB (t : Bool) {prog : Program} {w : World} {A : Around} (hh : A.handled = none) (it l : Addr) (hne : l ≠ it) (items : Array Value) :
    Draws prog w A it [it, l] items.size (fun i v => items[i]? = some v) (fun i h => ItB t h it l i ∧ IsB t h l items) := by
  cases t with
  | true => exact Draws.tuple hh it l hne items
  | false => exact Draws.list hh it l hne items
def objB (t : Bool) (l : Addr) : Obj := match t with
  | true => { cls := .type "tuple_iterator", data := .fields #[.ref l, .int 0 0] }
  | false => { cls := .type "list_iterator", data := .fields #[.ref l, .int 0 0] }
theorem beginsB (t : Bool) (l : Addr) (items : Array Value) : Begins (.ref l) (objB t l) fun h => IsB t h l items := by
  cases t with
  | true => exact begins_tuple l items
  | false => exact begins_list l items
theorem itB_new (t : Bool) {h : Heap} {I l : Addr} (g : h.get? I = some (objB t l)) : ItB t h I l 0 := by
  cases t with
  | true => exact ⟨_, g, rfl, rfl⟩
  | false => exact ⟨_, g, rfl, rfl⟩
def ItzB (t u : Bool) (K : PySem.W.Frag) (a b : Addr) : It :=
  ⟨fun i H => ∃ (xs ys : List V) (x y : V), SqB t K H a xs ∧ SqB u K H b ys ∧ xs[i]? = some x ∧ ys[i]? = some y,
    fun i H v H' => ∃ T x y, v = .ref T ∧ H T = none ∧ H' = upd H T (.tup [x, y]) ∧ (∀ xs, SqB t K H a xs → xs[i]? = some x) ∧ ∀ ys, SqB u K H b ys → ys[i]? = some y,
    fun i H => ∃ xs ys : List V, SqB t K H a xs ∧ SqB u K H b ys ∧ i = min xs.length ys.length⟩
def ZstB (t u : Bool) (z TI TO i1 i2 a b : Addr) (i : Nat) (h : Heap) : Prop :=
  IsZip h z TI TO .none ∧ IsTupOf2 h TI (.ref i1) (.ref i2) ∧ (∃ a1 a2, IsTupOf2 h TO a1 a2) ∧ ItB t h i1 a i ∧ ItB u h i2 b i
theorem turn_zipB (t u : Bool) {P : Program} {w : World} {K : PySem.W.Frag} {elts : List Expr} {kk : Nat} {tpos : Pos} {a b z TI TO i1 i2 : Addr} (D : ZipSep2 z TI TO i1 i2 [i1, a] [i2, b]) (n1 : a ≠ i1) (n2 : b ≠ i2) :
    Turn P w K (.Tuple elts kk tpos) (ItzB t u K a b) [z, TI, TO, i1, i2] z (ZstB t u z TI TO i1 i2 a b) where
  mem := by simp
  obj := fun i h st x hx => by
    obtain ⟨hz, hTI, ⟨_, _, hTO⟩, h1, h2⟩ := st
    have hx' : x = z ∨ x = TI ∨ x = TO ∨ x = i1 ∨ x = i2 := by simpa using hx
    rcases hx' with q | q | q | q | q <;> subst q
    · exact ⟨_, hz, fun v q => nomatch q⟩
    · exact ⟨_, hTI, fun v q => nomatch q⟩
    · exact ⟨_, hTO, fun v q => nomatch q⟩
    · exact h1.get
    · exact h2.get
  keep := fun i h h' st k => by
    obtain ⟨hz, hTI, ⟨u1, u2, hTO⟩, h1, h2⟩ := st
    exact ⟨k z (by simp) _ hz, k TI (by simp) _ hTI, ⟨u1, u2, k TO (by simp) _ hTO⟩, h1.at fun o q => k i1 (by simp) o q, h2.at fun o q => k i2 (by simp) o q⟩
  item := by
    intro X hP hw hK hc i pins s σ H E I hf st hg
    subst hP hw hK
    obtain ⟨hz, hTI, hTO, h1, h2⟩ := id st
    obtain ⟨xs, ys, x, y, qx, qy, hx, hy⟩ := hg
    obtain ⟨its1, rv1, p1, _⟩ := SqB.inv t I qx
    obtain ⟨its2, rv2, p2, _⟩ := SqB.inv u I qy
    have m1 := rv1.length
    have m2 := rv2.length
    have hh : X.A.in1.handled = none := I.ok.hd hc
    have W := GoesN.zip2 (prog := X.prog) (w := X.w) (A := X.A) (elts := elts) (x1 := kk) (pos := tpos) D (drawsB t hh i1 a n1 its1.toArray) (drawsB u hh i2 b n2 its2.toArray)
    have l1 := (List.getElem?_eq_some_iff.mp hx).1
    have l2 := (List.getElem?_eq_some_iff.mp hy).1
    have hn : i < min its1.toArray.size its2.toArray.size := by
      rw [List.size_toArray, List.size_toArray]; omega
    refine W.goes i s _ E hn ⟨hz, hTI, hTO, ⟨h1, p1⟩, ⟨h2, p2⟩⟩ fun v h' tk hY st' hk _ => ?_
    obtain ⟨T, u1, u2, rfl, hTn, g1, g2, oT, eT, cT, nT, dT⟩ := hY
    obtain ⟨v1, e1, r1⟩ := rv1.get hx
    obtain ⟨v2, e2, r2⟩ := rv2.get hy
    have f1 : v1 = u1 := by simp at g1; rw [g1] at e1; exact (Option.some.inj e1).symm
    have f2 : v2 = u2 := by simp at g2; rw [g2] at e2; exact (Option.some.inj e2).symm
    subst f1 f2
    have new : ObjOk X.prog X.w (upd H T (.tup [x, y])) h' T (.tup [x, y]) := ⟨by show 2 ≤ sizeLine; decide, [v1, v2], .cons r1 (.cons r2 .nil), oT, eT, cT, nT, dT⟩
    have J := I.turnedNew (t' := tk) (ch := [z, TI, TO, i1, i2]) (h' := h') (fun q o hb e => hk q o (fun hm => hb (by simp at hm ⊢; rcases hm with r | r | r | r <;> simp [r])) e) hf hTn new
    obtain ⟨z', TI', TO', ⟨k1, _⟩, ⟨k2, _⟩⟩ := st'
    refine ⟨.ref T, _, J, rfl, ⟨T, x, y, rfl, I.hok.fresh hTn, rfl, fun l hl => by rw [SqB.inj t I hl qx]; exact hx, fun l hl => by rw [SqB.inj u I hl qy]; exact hy⟩, ⟨z', TI', TO', k1, k2⟩, fun q hq => ?_⟩
    obtain ⟨oq, eq, _⟩ := (show ∀ q ∈ [z, TI, TO, i1, i2], ∃ o, s.heap.get? q = some o ∧ True from fun q hq => by
      obtain ⟨o1, e1, _⟩ := h1.get
      obtain ⟨o2, e2, _⟩ := h2.get
      obtain ⟨_, _, hTO⟩ := hTO
      have hq' : q = z ∨ q = TI ∨ q = TO ∨ q = i1 ∨ q = i2 := by simpa using hq
      rcases hq' with r | r | r | r | r <;> subst r
      · exact ⟨_, hz, trivial⟩
      · exact ⟨_, hTI, trivial⟩
      · exact ⟨_, hTO, trivial⟩
      · exact ⟨_, e1, trivial⟩
      · exact ⟨_, e2, trivial⟩) q hq
    rw [upd_ne (Nat.ne_of_lt (Nat.lt_of_lt_of_le (Heap.lt_size eq) hTn))]
    exact (hf q hq).1
  done := by
    intro X hP hw hK hc i pins s σ H E I hf st hg
    subst hP hw hK
    obtain ⟨hz, hTI, hTO, h1, h2⟩ := id st
    obtain ⟨xs, ys, qx, qy, rfl⟩ := hg
    obtain ⟨its1, rv1, p1, _⟩ := SqB.inv t I qx
    obtain ⟨its2, rv2, p2, _⟩ := SqB.inv u I qy
    have m1 := rv1.length
    have m2 := rv2.length
    have hh : X.A.in1.handled = none := I.ok.hd hc
    have W := GoesN.zip2 (prog := X.prog) (w := X.w) (A := X.A) (elts := elts) (x1 := kk) (pos := tpos) D (drawsB t hh i1 a n1 its1.toArray) (drawsB u hh i2 b n2 its2.toArray)
    have hn : min xs.length ys.length = min its1.toArray.size its2.toArray.size := by
      rw [List.size_toArray, List.size_toArray]; omega
    rw [hn] at h1 h2
    exact W.stops s _ E ⟨hz, hTI, hTO, ⟨h1, p1⟩, ⟨h2, p2⟩⟩ fun h' tk hk _ =>
      I.turnedL (t' := tk) (ch := [z, TI, TO, i1, i2]) (h' := h') (fun q o hb e => hk q o (fun hm => hb (by simp at hm ⊢; rcases hm with r | r | r | r <;> simp [r])) e) hf
  self := fun A i s Q E st h => wpAny_pyIter_zip st.1 h
def iZipB (K : PySem.W.Frag) (ta : TA) : TI := fun σ H R => ta σ H fun vs H1 => ∃ (t u : Bool) (a b : Addr) (xs ys : List V), vs = [.ref a, .ref b] ∧ SqB t K H1 a xs ∧ SqB u K H1 b ys ∧ R (ItzB t u K a b) H1
theorem pi_zipB {X : Cx} {e e2 : Expr} {ta : TA} {p pos tpos : Pos} {elts : List Expr} {kk : Nat} (hg : Gl X "zip") (hm : X.mg "zip" = none) (ha : PA X [e, e2] ta)
    (hs : starEach [e, e2] X.env = (false, eval e X.env) :: starEach [e2] X.env := by rfl) (hpl : (backTo pos (starEach [e2] X.env)).any (·.1) = false := by rfl) :
    PI X (.Tuple elts kk tpos) (.Call (.Name "zip" p) [e, e2] [] pos) (iZipB X.K ta) := by
  refine ⟨fun pins s σ H R I h => ?_⟩
  refine Call_ (ld_blt I hg hm PyProof.Rows.boot_zip (PyProof.Rows.callWith_type1 (thn (ha.run pos pins s σ H _ I h) fun us s1 hz => ?_) hs hpl))
  obtain ⟨vs, H1, I1, r1, t, u, a, b, xs, ys, rfl, qx, qy, q⟩ := hz
  cases r1 with
  | cons ra r1 =>
    cases r1 with
    | cons rb r1 =>
      cases r1
      cases ra
      cases rb
      obtain ⟨its1, _, p1, lt1⟩ := SqB.inv t I1 qx
      obtain ⟨its2, _, p2, lt2⟩ := SqB.inv u I1 qy
      refine zip_begins2 (beginsB t a its1.toArray) (beginsB u b its2.toArray) p1 p2 fun h' hz hTI hTO g1 g2 hsz hk => wpAny_pyIter_zip hz ?_
      have I2 : Inv X pins σ H1 { s1 with heap := h' } := I1.kept (t' := s1.toks) hk
      have S := zip_sep2 (N := s1.heap.objs.size) (fp1 := [a]) (fp2 := [b]) (fun x hx => by rw [List.mem_singleton.mp hx]; exact lt1) (fun x hx => by rw [List.mem_singleton.mp hx]; exact lt2)
      refine ⟨s1.heap.objs.size + 4, [s1.heap.objs.size + 4, s1.heap.objs.size + 2, s1.heap.objs.size + 3, s1.heap.objs.size, s1.heap.objs.size + 1], _, _, H1, rfl, I2,
        turn_zipB t u S (Nat.ne_of_lt lt1) (Nat.ne_of_lt (Nat.lt_succ_of_lt lt2)), ⟨hz, hTI, ⟨_, _, hTO⟩, itB_new t g1, itB_new u g2⟩, fun q hq => ?_, q⟩
      have hle : s1.heap.objs.size ≤ q := by
        have hq' : q = s1.heap.objs.size + 4 ∨ q = s1.heap.objs.size + 2 ∨ q = s1.heap.objs.size + 3 ∨ q = s1.heap.objs.size ∨ q = s1.heap.objs.size + 1 := by simpa using hq
        rcases hq' with r | r | r | r | r <;> rw [r]
        all_goals first | exact Nat.le_refl _ | exact Nat.le_add_right _ _
      exact I1.fpOk hle (I1.hok.fresh hle)
end Gd

set_option Elab.async false
set_option linter.all false
set_option maxRecDepth 100000
set_option maxHeartbeats 4000000
/-! enumerate of a list or a tuple -/
namespace Gd
open PySem PySem.Spec PyProof.Rows L2
set_option maxHeartbeats 8000000 in
theorem meets_enumerate_newB1 {v : Value} {o : Obj} {H : Heap → Prop} (B : Begins v o H) :
    Meets (Builtin.«enumerate.__new__» ⟨[.type "enumerate", v], []⟩) (fun _ R s => H s.heap ∧
      R (.ok (.ret (.ref (s.heap.push o).objs.size))) { s with heap := (s.heap.push o).push { cls := .type "enumerate", data := .fields #[.none, .bool false, .ref s.heap.objs.size, rawInt 0, .none, .none] } }) :=
  .of_wp fun prog w A R s h => by
    obtain ⟨hp, g, d, tk, os⟩ := s; obtain ⟨h1, h⟩ := h
    have hsub := sub_enumerate
    have q1 : ∀ {A' : Around} {E : Value → Shared → Prop} {Q : Value → Shared → Prop}, Q (.ref hp.objs.size) ⟨hp.push o, g, d, tk, os⟩ → wpAny (model prog w) A' (pyIter v) Q E ⟨hp, g, d, tk, os⟩ :=
      fun q => B.iter prog w _ _ ⟨hp, g, d, tk, os⟩ _ h1 q
    wp_walk using q1
    refine wpAny_stack_any fun st => wpAny_pure ?_
    split
    · rename_i c _ _ _ _ _
      cases (c == Value.type "enumerate")
      · wp_walk using q1
        exact ⟨_, rfl, h⟩
      · wp_walk using q1
        exact ⟨_, rfl, h⟩
    · wp_walk using q1
      exact ⟨_, rfl, h⟩
theorem enum_begins1 {prog : Program} {w : World} {A : Around} {E : Value → Shared → Prop} {s : Shared} {v : Value} {o : Obj} {H : Heap → Prop} {Q : Value → Shared → Prop} (B : Begins v o H) (h1 : H s.heap)
    (h : ∀ h', IsEnum h' (s.heap.objs.size + 1) s.heap.objs.size 0 .none → h'.get? s.heap.objs.size = some o → h'.objs.size = s.heap.objs.size + 2 →
      (∀ b o, s.heap.get? b = some o → h'.get? b = some o) → Q (.ref (s.heap.objs.size + 1)) { s with heap := h' }) :
    wpAny (model prog w) A (call (.type "enumerate") [v]) Q E s := by
  refine callType_new F.called_enumerate (by decide) (F.typeCall_enumerate_1 _) (F.newCall_enumerate_1 _) (fun obj => F.args_object_init_2 obj _) F.entry_enumerate_new
    (meets_enumerate_newB1 B) ⟨h1, ?_⟩
  have hz : (s.heap.push o).objs.size = s.heap.objs.size + 1 := Heap.size_push ..
  show _ ∧ _
  rw [hz]
  have he : IsEnum ((s.heap.push o).push { cls := .type "enumerate", data := .fields #[.none, .bool false, .ref s.heap.objs.size, rawInt 0, .none, .none] }) (s.heap.objs.size + 1) s.heap.objs.size 0 .none := by
    have := Heap.get?_push_size (s.heap.push o) (o := { cls := .type "enumerate", data := .fields #[.none, .bool false, .ref s.heap.objs.size, rawInt 0, .none, .none] }) rfl
    rw [hz] at this; exact this
  exact ⟨⟨_, he, rfl⟩, h _ he (Heap.get?_push_of_some _ (Heap.get?_push_size _ B.free)) (by rw [Heap.size_push, hz]) fun b o x => Heap.get?_push_of_some _ (Heap.get?_push_of_some _ x)⟩
def IteB (t : Bool) (K : PySem.W.Frag) (a : Addr) : It :=
  ⟨fun i H => ∃ (xs : List V) (x : V), SqB t K H a xs ∧ xs[i]? = some x,
    fun i H v H' => ∃ T x, v = .ref T ∧ H T = none ∧ H' = upd H T (.tup [.int (i : Nat), x]) ∧ ∀ xs, SqB t K H a xs → xs[i]? = some x,
    fun i H => ∃ xs : List V, SqB t K H a xs ∧ i = xs.length⟩
def EstB (t : Bool) (e it a : Addr) (i : Nat) (h : Heap) : Prop := (∃ old, IsEnum h e it ((0 : Int) + (i : Int)) old) ∧ ItB t h it a i
theorem turn_enumB (t : Bool) {P : Program} {w : World} {K : PySem.W.Frag} {elts : List Expr} {kk : Nat} {tpos : Pos} {a e it : Addr} (n0 : e ≠ it) (n1 : a ≠ it) (n2 : e ≠ a) :
    Turn P w K (.Tuple elts kk tpos) (IteB t K a) [e, it] e (EstB t e it a) where
  mem := by simp
  obj := fun i h st x hx => by
    obtain ⟨⟨old, he⟩, h1⟩ := st
    have hx' : x = e ∨ x = it := by simpa using hx
    rcases hx' with q | q <;> subst q
    · exact ⟨_, he, fun v q => nomatch q⟩
    · exact h1.get
  keep := fun i h h' st k => by
    obtain ⟨⟨old, he⟩, h1⟩ := st
    exact ⟨⟨old, k e (by simp) _ he⟩, h1.at fun o q => k it (by simp) o q⟩
  item := by
    intro X hP hw hK hc i pins s σ H E I hf st hg
    subst hP hw hK
    obtain ⟨he, h1⟩ := id st
    obtain ⟨xs, x, qx, hx⟩ := hg
    obtain ⟨its1, rv1, p1, _⟩ := SqB.inv t I qx
    have m1 := rv1.length
    have hh : X.A.in1.handled = none := I.ok.hd hc
    have W := GoesN.enumFrom (prog := X.prog) (w := X.w) (A := X.A) (elts := elts) (x1 := kk) (pos := tpos) 0 (drawsB t hh it a n1 its1.toArray) e n0 (by simp [n0, n2]) (by simp)
    have l1 := (List.getElem?_eq_some_iff.mp hx).1
    have hn : i < its1.toArray.size := by rw [List.size_toArray]; omega
    refine W.goes i s _ E hn ⟨he, h1, p1⟩ fun v h' tk hY st' hk _ => ?_
    obtain ⟨T, tt, u1, rfl, hTn, g1, oT, eT, cT, nT, dT⟩ := hY
    obtain ⟨v1, e1, r1⟩ := rv1.get hx
    have f1 : v1 = u1 := by simp at g1; rw [g1] at e1; exact (Option.some.inj e1).symm
    subst f1
    have new : ObjOk X.prog X.w (upd H T (.tup [.int (i : Nat), x])) h' T (.tup [.int (i : Nat), x]) := ⟨by show 2 ≤ sizeLine; decide, [.int ((0 : Int) + (i : Int)) tt, v1], .cons ⟨tt, by rw [Int.zero_add]⟩ (.cons r1 .nil), oT, eT, cT, nT, dT⟩
    have J := I.turnedNew (t' := tk) (ch := [e, it]) (h' := h') (fun q o hb e => hk q o (fun hm => hb hm) e) hf hTn new
    obtain ⟨z', k1, _⟩ := st'
    refine ⟨.ref T, _, J, rfl, ⟨T, x, rfl, I.hok.fresh hTn, rfl, fun l hl => by rw [SqB.inj t I hl qx]; exact hx⟩, ⟨z', k1⟩, fun q hq => ?_⟩
    obtain ⟨oq, eq, _⟩ := (show ∀ q ∈ [e, it], ∃ o, s.heap.get? q = some o ∧ True from fun q hq => by
      obtain ⟨o1, e1, _⟩ := h1.get
      obtain ⟨old, he⟩ := he
      have hq' : q = e ∨ q = it := by simpa using hq
      rcases hq' with r | r <;> subst r
      · exact ⟨_, he, trivial⟩
      · exact ⟨_, e1, trivial⟩) q hq
    rw [upd_ne (Nat.ne_of_lt (Nat.lt_of_lt_of_le (Heap.lt_size eq) hTn))]
    exact (hf q hq).1
  done := by
    intro X hP hw hK hc i pins s σ H E I hf st hg
    subst hP hw hK
    obtain ⟨he, h1⟩ := id st
    obtain ⟨xs, qx, rfl⟩ := hg
    obtain ⟨its1, rv1, p1, _⟩ := SqB.inv t I qx
    have m1 := rv1.length
    have hh : X.A.in1.handled = none := I.ok.hd hc
    have W := GoesN.enumFrom (prog := X.prog) (w := X.w) (A := X.A) (elts := elts) (x1 := kk) (pos := tpos) 0 (drawsB t hh it a n1 its1.toArray) e n0 (by simp [n0, n2]) (by simp)
    have hn : xs.length = its1.toArray.size := by rw [List.size_toArray]; omega
    rw [hn] at he h1
    exact W.stops s _ E ⟨he, h1, p1⟩ fun h' tk hk _ => I.turnedL (t' := tk) (ch := [e, it]) (h' := h') (fun q o hb e => hk q o (fun hm => hb hm) e) hf
  self := fun A i s Q E st h => let ⟨⟨_, he⟩, _⟩ := st; wpAny_pyIter_enum he h
def iEnumB (K : PySem.W.Frag) (ta : TA) : TI := fun σ H R => ta σ H fun vs H1 => ∃ (t : Bool) (a : Addr) (xs : List V), vs = [.ref a] ∧ SqB t K H1 a xs ∧ R (IteB t K a) H1
theorem pi_enumB {X : Cx} {e : Expr} {ta : TA} {p pos tpos : Pos} {elts : List Expr} {kk : Nat} (hg : Gl X "enumerate") (hm : X.mg "enumerate" = none) (ha : PA X [e] ta) (hs : starEach [e] X.env = [(false, eval e X.env)] := by rfl) :
    PI X (.Tuple elts kk tpos) (.Call (.Name "enumerate" p) [e] [] pos) (iEnumB X.K ta) := by
  refine ⟨fun pins s σ H R I h => ?_⟩
  refine Call_ (ld_blt I hg hm boot_enumerate (PyProof.Rows.callWith_type1 (thn (ha.run pos pins s σ H _ I h) fun us s1 ⟨vs, H1, I1, r1, q1⟩ => ?_) hs rfl))
  obtain ⟨t, a, xs, ex, hq, q⟩ := q1
  subst ex
  cases r1 with
  | cons r rr =>
    cases rr
    cases r
    obtain ⟨its, rv, p', lt⟩ := SqB.inv t I1 hq
    refine enum_begins1 (beginsB t a its.toArray) p' fun h' he hit hsz hk => wpAny_pyIter_enum he ?_
    have I2 : Inv X pins σ H1 { s1 with heap := h' } := I1.kept (t' := s1.toks) hk
    refine ⟨s1.heap.objs.size + 1, [s1.heap.objs.size + 1, s1.heap.objs.size], _, _, H1, rfl, I2, turn_enumB t (a := a) (e := s1.heap.objs.size + 1) (it := s1.heap.objs.size) (Nat.succ_ne_self _) (Nat.ne_of_lt lt) (Ne.symm (Nat.ne_of_lt (Nat.lt_succ_of_lt lt))), ⟨⟨.none, by simpa using he⟩, itB_new t hit⟩, fun b hb => ?_, q⟩
    have e' : b = s1.heap.objs.size + 1 ∨ b = s1.heap.objs.size := by simpa using hb
    have hle : s1.heap.objs.size ≤ b := by
      rcases e' with z | z
      · rw [z]; exact Nat.le_add_right _ _
      · rw [z]; exact Nat.le_refl _
    exact I1.fpOk hle (I1.hok.fresh hle)
/-- .. as a walk -/
theorem walk_enumB {t : Bool} {K : PySem.W.Frag} {a : Addr} {xs : List V} : Walk (IteB t K a) xs.length (fun H => SqB t K H a xs) (YPair (fun i => some (.int (i : Nat))) (fun i => xs[i]?)) where
  goes := fun i H hi q => ⟨xs, xs[i], q, by simp [hi]⟩
  stops := fun H q => ⟨xs, q, rfl⟩
  yields := fun i H x H' hi q ⟨T, y, e1, e2, e3, e4⟩ => ⟨T, _, y, e1, e2, e3, rfl, e4 xs q⟩
end Gd

set_option Elab.async false
set_option linter.all false
set_option maxRecDepth 100000
set_option maxHeartbeats 4000000
/-! the data layer: values as trees, a frame's slots as data or cells of one's own, judgements by plain functions -/
namespace Dx
open PySem PySem.Spec PyProof.Rows L2 Gd

/-! ### values -/
inductive D where
  | non | bl (b : Bool) | int (i : Int) | str (x : Str)
  | tup (xs : List D) | lst (xs : List D) | dic (ks : List (Key × D))
  | obj (c : Str) (fs : List (Str × D)) | ty (n : String) | cls (c : Str)
  /-- a list of ints that is only read (the script) -/
  | scr (ns : List Int)
  deriving Inhabited
abbrev big : Nat := 1000000
theorem big_le : big ≤ sizeLine := by rw [sizeLine_eq]; decide

/-- what a frame's text knows -/
structure Gm where
  K : PySem.W.Frag
  mg : Str → Option Value

mutual
inductive Rp (g : Gm) (G : Hp) : V → D → Prop
  | non : Rp g G .non .non
  | bl (b : Bool) : Rp g G (.bl b) (.bl b)
  | int (i : Int) : Rp g G (.int i) (.int i)
  | str (x : Str) (h : x.length ≤ big) (o : PyData.strOk x = true) : Rp g G (.str x) (.str x)
  | tup {a : Addr} {xs : List V} {ds : List D} (s : SqT g.K G a xs) (n : ds.length ≤ big) (r : RpL g G xs ds) : Rp g G (.ref a) (.tup ds)
  | lst {a : Addr} {xs : List V} {ds : List D} (s : G a = some (.lst xs)) (n : ds.length ≤ big) (r : RpL g G xs ds) : Rp g G (.ref a) (.lst ds)
  | dic {a : Addr} {o : Obj} {kvs : List (Key × V)} {ks : List (Key × D)} (s : G a = some (.frz o (.dK kvs))) (n : ks.length ≤ big) (e : kvs.map (·.1) = ks.map (·.1)) (r : RpL g G (kvs.map (·.2)) (ks.map (·.2))) : Rp g G (.ref a) (.dic ks)
  | obj {a C dx : Addr} {fv : List (Str × V)} {c : Str} {fs : List (Str × D)} (s : G a = some (.ins C dx fv)) (o : G dx = some (.own a)) (m : g.mg c = some (.ref C)) (e : fv.map (·.1) = fs.map (·.1)) (r : RpL g G (fv.map (·.2)) (fs.map (·.2))) :
      Rp g G (.ref a) (.obj c fs)
  | ty (n : String) : Rp g G (.ty n) (.ty n)
  | cls {c : Str} {C : Addr} (m : g.mg c = some (.ref C)) : Rp g G (.ref C) (.cls c)
  | scr {a : Addr} {ns : List Int} (s : SqL g.K G a (ns.map V.int)) : Rp g G (.ref a) (.scr ns)
inductive RpL (g : Gm) (G : Hp) : List V → List D → Prop
  | nil : RpL g G [] []
  | cons {v : V} {vs : List V} {d : D} {ds : List D} (h : Rp g G v d) (r : RpL g G vs ds) : RpL g G (v :: vs) (d :: ds)
end

section
variable {g : Gm} {G G' : Hp}
theorem rdS {a : Addr} {u : HO} (s : Same G G') (h : Rd G a u) : Rd G' a u := by
  rcases h with h | ⟨o, h⟩
  · exact .inl (s _ _ h)
  · exact .inr ⟨o, s _ _ h⟩
theorem sqLS {K : PySem.W.Frag} {a : Addr} {xs : List V} (s : Same G G') (h : SqL K G a xs) : SqL K G' a xs := h.imp (rdS s) id
theorem sqTS {K : PySem.W.Frag} {a : Addr} {xs : List V} (s : Same G G') (h : SqT K G a xs) : SqT K G' a xs := h.imp (rdS s) id
mutual
theorem Rp.up (s : Same G G') : ∀ (d : D) (v : V), Rp g G v d → Rp g G' v d
  | _, _, .non => .non
  | _, _, .bl b => .bl b
  | _, _, .int i => .int i
  | _, _, .str x h o => .str x h o
  | _, _, .tup h n r => .tup (sqTS s h) n (RpL.up s _ _ r)
  | _, _, .lst h n r => .lst (s _ _ h) n (RpL.up s _ _ r)
  | _, _, .dic h n e r => .dic (s _ _ h) n e (RpL.up s _ _ r)
  | _, _, .obj h o m e r => .obj (s _ _ h) (s _ _ o) m e (RpL.up s _ _ r)
  | _, _, .ty n => .ty n
  | _, _, .cls m => .cls m
  | _, _, .scr h => .scr (sqLS s h)
theorem RpL.up (s : Same G G') : ∀ (ds : List D) (vs : List V), RpL g G vs ds → RpL g G' vs ds
  | _, _, .nil => .nil
  | _, _, .cons h r => .cons (Rp.up s _ _ h) (RpL.up s _ _ r)
end
theorem RpL.len : ∀ {vs : List V} {ds : List D}, RpL g G vs ds → vs.length = ds.length
  | _, _, .nil => rfl
  | _, _, .cons _ r => by simp [RpL.len r]
theorem RpL.get : ∀ {vs : List V} {ds : List D} {i : Nat} {x : V}, RpL g G vs ds → vs[i]? = some x → ∃ d, ds[i]? = some d ∧ Rp g G x d
  | _, _, _, _, .nil, e => by simp at e
  | _, _, 0, _, .cons a _, e => by simp at e; subst e; exact ⟨_, rfl, a⟩
  | _, _, i + 1, x, .cons _ b, e => by
    obtain ⟨d, h1, h2⟩ := RpL.get (i := i) b (by simpa using e)
    exact ⟨d, by simpa using h1, h2⟩
theorem RpL.getD : ∀ {vs : List V} {ds : List D} {i : Nat} {d : D}, RpL g G vs ds → ds[i]? = some d → ∃ x, vs[i]? = some x ∧ Rp g G x d
  | _, _, _, _, .nil, e => by simp at e
  | _, _, 0, _, .cons a _, e => by simp at e; subst e; exact ⟨_, rfl, a⟩
  | _, _, i + 1, x, .cons _ b, e => by
    obtain ⟨d, h1, h2⟩ := RpL.getD (i := i) b (by simpa using e)
    exact ⟨d, by simpa using h1, h2⟩
theorem RpL.app : ∀ {vs ws : List V} {ds es : List D}, RpL g G vs ds → RpL g G ws es → RpL g G (vs ++ ws) (ds ++ es)
  | _, _, _, _, .nil, r => r
  | _, _, _, _, .cons h t, r => .cons h (RpL.app t r)
theorem RpL.take : ∀ {vs : List V} {ds : List D} (n : Nat), RpL g G vs ds → RpL g G (vs.take n) (ds.take n)
  | _, _, 0, _ => by simpa using .nil
  | _, _, _ + 1, .nil => by simpa using .nil
  | _, _, n + 1, .cons h r => by simpa using .cons h (RpL.take n r)
theorem RpL.drop : ∀ {vs : List V} {ds : List D} (n : Nat), RpL g G vs ds → RpL g G (vs.drop n) (ds.drop n)
  | _, _, 0, r => by simpa using r
  | _, _, _ + 1, .nil => by simpa using .nil
  | _, _, n + 1, .cons h r => by simpa using RpL.drop n r
theorem RpL.set : ∀ {vs : List V} {ds : List D} {v : V} {d : D} (n : Nat), RpL g G vs ds → Rp g G v d → RpL g G (vs.set n v) (ds.set n d)
  | _, _, _, _, _, .nil, _ => by simpa using .nil
  | _, _, _, _, 0, .cons _ r, q => .cons q r
  | _, _, _, _, n + 1, .cons h r, q => .cons h (RpL.set n r q)
theorem RpL.inv_cons {vs : List V} {d : D} {ds : List D} (h : RpL g G vs (d :: ds)) : ∃ v r, vs = v :: r ∧ Rp g G v d ∧ RpL g G r ds := by
  cases h with
  | cons a b => exact ⟨_, _, rfl, a, b⟩
theorem RpL.inv_nil {vs : List V} (h : RpL g G vs []) : vs = [] := by cases h; rfl
end

/-! ### a frame's slots -/
/-- a thing that its frame may change -/
inductive Cell where
  | lst (ds : List D) | dic (ks : List (Key × D)) | ins (c : Str) (fs : List (Str × D))
def Cell.toD : Cell → D
  | .lst ds => .lst ds
  | .dic ks => .dic ks
  | .ins c fs => .obj c fs
inductive Slot where
  | no | dat (d : D) | own (c : Cell) | bor (c : Cell)
abbrev Ev := List Slot
/-- an error: its class, the values that it keeps -/
structure Er where
  cls : Str
  fs : List (Str × D)
inductive Re (α : Type) where
  | ok (a : α) (ρ : Ev) | er (e : Er) (ρ : Ev) | no
@[simp] def Re.bind {α β : Type} : Re α → (α → Ev → Re β) → Re β
  | .ok a ρ, k => k a ρ
  | .er e ρ, _ => .er e ρ
  | .no, _ => .no
abbrev EV := Ev → Re D
abbrev AV := Ev → Re (List D)
abbrev BV := Ev → Re Bool
inductive Fl where
  | nx | rt (d : D) | bk | ct | rc (c : Cell)
abbrev SV := Ev → Re Fl

def CellR (g : Gm) (G H : Hp) (p : Addr) : Cell → Prop
  | .lst ds => G p = none ∧ ds.length ≤ big ∧ ∃ xs, H p = some (.lst xs) ∧ RpL g G xs ds
  | .dic ks => G p = none ∧ ks.length ≤ big ∧ ∃ kvs, H p = some (.dK kvs) ∧ kvs.map (·.1) = ks.map (·.1) ∧ RpL g G (kvs.map (·.2)) (ks.map (·.2))
  | .ins c fs => G p = none ∧ ∃ C dx fv, H p = some (.ins C dx fv) ∧ G dx = some (.own p) ∧ g.mg c = some (.ref C) ∧ fv.map (·.1) = fs.map (·.1) ∧ RpL g G (fv.map (·.2)) (fs.map (·.2))
theorem CellR.fr {g : Gm} {G H : Hp} {p : Addr} {c : Cell} (h : CellR g G H p c) : G p = none := by
  cases c <;> exact h.1
theorem CellR.th {g : Gm} {G H : Hp} {p : Addr} {c : Cell} (h : CellR g G H p c) : H p ≠ none := by
  cases c with
  | lst ds => obtain ⟨_, _, xs, e, _⟩ := h; rw [e]; exact fun z => nomatch z
  | dic ks => obtain ⟨_, _, xs, e, _⟩ := h; rw [e]; exact fun z => nomatch z
  | ins c fs => obtain ⟨_, C, dx, fv, e, _⟩ := h; rw [e]; exact fun z => nomatch z
theorem same_trans {H1 H2 H3 : Hp} (a : Same H1 H2) (b : Same H2 H3) : Same H1 H3 := fun p o e => b p o (a p o e)
theorem same_rfl {H : Hp} : Same H H := fun _ _ e => e
theorem same_new {H : Hp} {p : Addr} {o : HO} (h : H p = none) : Same H (upd H p o) := fun b u e => by rw [upd_ne (ne_of_none e h)]; exact e

/-- the heap has grown, what stood stands; what is frozen now was new -/
structure Ext (G H G' H' : Hp) : Prop where
  g : Same G G'
  h : Same H H'
  i : Same G' H'
  f : ∀ p, H p ≠ none → G' p = G p
theorem Ext.rfl {G H : Hp} (s : Same G H) : Ext G H G H := ⟨same_rfl, same_rfl, s, fun _ _ => Eq.refl _⟩
theorem Ext.trans {G H G1 H1 G2 H2 : Hp} (a : Ext G H G1 H1) (b : Ext G1 H1 G2 H2) : Ext G H G2 H2 :=
  ⟨same_trans a.g b.g, same_trans a.h b.h, b.i, fun p hp => (b.f p (fun z => by
    cases e : H p with
    | none => exact hp e
    | some o => rw [a.h p o e] at z; cases z)).trans (a.f p hp)⟩
/-- a new object that is frozen at once -/
theorem Ext.new {G H : Hp} {p : Addr} {o : HO} (s : Same G H) (hp : H p = none) : Ext G H (upd G p o) (upd H p o) := by
  have gp : G p = none := by
    cases e : G p with
    | none => rfl
    | some u => rw [s p u e] at hp; cases hp
  refine ⟨same_new gp, same_new hp, fun b u e => ?_, fun b hb => ?_⟩
  · by_cases hbp : b = p
    · subst hbp; rw [upd_same] at e ⊢; exact e
    · rw [upd_ne hbp] at e ⊢; exact s b u e
  · rw [upd_ne fun z => hb (by rw [z]; exact hp)]
/-- a new object -/
theorem Ext.lay {G H : Hp} {p : Addr} {o : HO} (s : Same G H) (hp : H p = none) : Ext G H G (upd H p o) :=
  ⟨same_rfl, same_new hp, same_trans s (same_new hp), fun _ _ => Eq.refl _⟩
theorem CellR.ext {g : Gm} {G H G' H' : Hp} {p : Addr} {c : Cell} (x : Ext G H G' H') (h : CellR g G H p c) : CellR g G' H' p c := by
  have t := h.th
  cases c with
  | lst ds =>
    obtain ⟨f, n, xs, e, r⟩ := h
    exact ⟨(x.f p t).trans f, n, xs, x.h _ _ e, r.up x.g⟩
  | dic ks =>
    obtain ⟨f, n, xs, e, q, r⟩ := h
    exact ⟨(x.f p t).trans f, n, xs, x.h _ _ e, q, r.up x.g⟩
  | ins c fs =>
    obtain ⟨f, C, dx, fv, e, e2, m, q, r⟩ := h
    exact ⟨(x.f p t).trans f, C, dx, fv, x.h _ _ e, x.g _ _ e2, m, q, r.up x.g⟩

/-- a frame: its text's facts, the cells that it was given, the heaps at its entry -/
structure Fm where
  g : Gm
  ps : List Addr
  G0 : Hp
  H0 : Hp
  /-- what is being made, out of reach -/
  pr : List (Addr × HO)
structure Grow (ps : List Addr) (G0 H0 G H : Hp) : Prop where
  g : Same G0 G
  h : ∀ p o, p ∉ ps → H0 p = some o → H p = some o
  f : ∀ p, H0 p ≠ none → G p = G0 p
def SlotOk (f : Fm) (G H : Hp) (σ : L2.St) (i : Nat) : Slot → Prop
  | .no => True
  | .dat d => ∃ v, σ[i]? = some (some v) ∧ Rp f.g G v d
  | .own c => ∃ p, σ[i]? = some (some (.ref p)) ∧ CellR f.g G H p c ∧ f.H0 p = none
  | .bor c => ∃ p, f.ps[i]? = some p ∧ σ[i]? = some (some (.ref p)) ∧ CellR f.g G H p c
def Slot.mut : Slot → Bool
  | .own _ => true
  | .bor _ => true
  | _ => false
def Slot.cell : Slot → Option Cell
  | .own c => some c
  | .bor c => some c
  | _ => none
def Slot.put : Slot → Cell → Slot
  | .own _, c => .own c
  | _, c => .bor c
theorem slot_mut {s : Slot} {c : Cell} (h : s.cell = some c) : s.mut = true := by cases s <;> first | rfl | cases h
structure FI (f : Fm) (G H : Hp) (σ : L2.St) (ρ : Ev) : Prop where
  gh : Same G H
  gr : Grow f.ps f.G0 f.H0 G H
  len : σ.length = ρ.length
  sl : ∀ (i : Nat) (s : Slot), ρ[i]? = some s → SlotOk f G H σ i s
  ap : ∀ (i j : Nat) (s t : Slot) (p : Addr), ρ[i]? = some s → ρ[j]? = some t → s.mut = true → t.mut = true → σ[i]? = some (some (V.ref p)) → σ[j]? = some (some (V.ref p)) → i = j
  bo : ∀ (k : Nat) (p : Addr), f.ps[k]? = some p → ∃ c, ρ[k]? = some (Slot.bor c)
  pr : ∀ q ∈ f.pr, H q.1 = some q.2 ∧ G q.1 = none ∧ f.H0 q.1 = none ∧ ∀ (i : Nat) (s : Slot), ρ[i]? = some s → s.mut = true → σ[i]? ≠ some (some (V.ref q.1))
  np : (f.pr.map (·.1)).Nodup
theorem Grow.ext {ps : List Addr} {G0 H0 G H G' H' : Hp} (w : Grow ps G0 H0 G H) (x : Ext G H G' H') (hps : ∀ p ∈ ps, H p ≠ none) : Grow ps G0 H0 G' H' :=
  ⟨same_trans w.g x.g, fun p o n e => x.h p o (w.h p o n e), fun p hp => (x.f p (fun z => by
    by_cases hm : p ∈ ps
    · exact hps p hm z
    · cases e : H0 p with
      | none => exact hp e
      | some o => rw [w.h p o hm e] at z; cases z)).trans (w.f p hp)⟩
section
variable {f : Fm} {G H G' H' : Hp} {σ : L2.St} {ρ : Ev}
theorem SlotOk.ext {i : Nat} {s : Slot} (x : Ext G H G' H') (h : SlotOk f G H σ i s) : SlotOk f G' H' σ i s := by
  cases s with
  | no => trivial
  | dat d => obtain ⟨v, e, r⟩ := h; exact ⟨v, e, r.up x.g⟩
  | own c => obtain ⟨p, e, r, z⟩ := h; exact ⟨p, e, r.ext x, z⟩
  | bor c => obtain ⟨p, e, e2, r⟩ := h; exact ⟨p, e, e2, r.ext x⟩
theorem FI.psH (h : FI f G H σ ρ) : ∀ p ∈ f.ps, H p ≠ none := fun p hp => by
  obtain ⟨k, hk⟩ := List.mem_iff_getElem?.mp hp
  obtain ⟨c, hc⟩ := h.bo k p hk
  obtain ⟨q, e, _, r⟩ := h.sl k _ hc
  rw [hk] at e
  cases e
  exact r.th
theorem FI.ext (h : FI f G H σ ρ) (x : Ext G H G' H') : FI f G' H' σ ρ :=
  ⟨x.i, h.gr.ext x h.psH, h.len, fun i s e => (h.sl i s e).ext x, h.ap, h.bo, fun q hq => by
    obtain ⟨a, b, c, d⟩ := h.pr q hq
    exact ⟨x.h _ _ a, (x.f q.1 (by rw [a]; exact fun z => nomatch z)).trans b, c, d⟩, h.np⟩
end

/-! ### judgements -/
/-- an exception as it is wished: its class, its own dict -/
def ErR (g : Gm) (G : Hp) (cls : Value) (dd : Option Addr) (e : Er) : Prop :=
  ∃ C, cls = .ref C ∧ g.mg e.cls = some (.ref C) ∧ ((e.fs = [] ∧ dd = none) ∨ ∃ d fv, dd = some d ∧ G d = some (.xd fv) ∧ fv.map (·.1) = e.fs.map (·.1) ∧ RpL g G (fv.map (·.2)) (e.fs.map (·.2)))
section
variable (f : Fm) (W : WX)
def PostX {α : Type} (σ : L2.St) (G : Hp) (Q : α → Hp → Hp → Prop) : Re α → Prop
  | .ok a ρ' => ∀ G' H', Same G G' → FI f G' H' σ ρ' → Q a G' H'
  | .er e ρ' => ∀ cls dd G' H', Same G G' → FI f G' H' σ ρ' → ErR f.g G' cls dd e → W cls dd σ H'
  | .no => False
def tX (ev : EV) : TE := fun σ H Q => ∃ G ρ, FI f G H σ ρ ∧ PostX f W σ G (fun d G' H' => ∀ v, Rp f.g G' v d → Q v H') (ev ρ)
def tXA (ev : AV) : TA := fun σ H Q => ∃ G ρ, FI f G H σ ρ ∧ PostX f W σ G (fun ds G' H' => ∀ vs, RpL f.g G' vs ds → Q vs H') (ev ρ)
def tXB (ev : BV) : TT := fun σ H Q => ∃ G ρ, FI f G H σ ρ ∧ PostX f W σ G (fun b _ H' => Q b H') (ev ρ)
def FlowOk (Dd : Ends) (G' : Hp) (σ' : L2.St) (H' : Hp) : Fl → Prop
  | .nx => Dd.nx σ' H'
  | .bk => Dd.bk σ' H'
  | .ct => Dd.ct σ' H'
  | .rt d => ∀ v, Rp f.g G' v d → Dd.rt v H'
  | .rc c => ∀ p, CellR f.g G' H' p c → f.H0 p = none → Dd.rt (.ref p) H'
def PostS (G : Hp) (Dd : Ends) : Re Fl → Prop
  | .ok fl ρ' => ∀ σ' G' H', Same G G' → FI f G' H' σ' ρ' → FlowOk f Dd G' σ' H' fl
  | .er e ρ' => ∀ cls dd σ' G' H', Same G G' → FI f G' H' σ' ρ' → ErR f.g G' cls dd e → W cls dd σ' H'
  | .no => False
def tXS (sv : SV) : TS := fun Dd σ H => ∃ G ρ, FI f G H σ ρ ∧ PostS f W G Dd (sv ρ)
end
/-- an expression that stands for ev -/
abbrev PX (X : Cx) (f : Fm) (W : WX) (e : Expr) (ev : EV) : Prop := PE X e (tX f W ev)
abbrev PXA (X : Cx) (f : Fm) (W : WX) (es : List Expr) (ev : AV) : Prop := PA X es (tXA f W ev)
abbrev PXB (X : Cx) (f : Fm) (W : WX) (e : Expr) (ev : BV) : Prop := PT X e (tXB f W ev)
abbrev PXS (X : Cx) (f : Fm) (W : WX) (st : Stmt) (sv : SV) : Prop := PS X st (tXS f W sv)
abbrev PXSs (X : Cx) (f : Fm) (W : WX) (st : List Stmt) (sv : SV) : Prop := PSs X st (tXS f W sv)
theorem PE.imp {X : Cx} {e : Expr} {t t' : TE} (h : PE X e t) (i : ∀ σ H Q, t' σ H Q → t σ H Q) : PE X e t' := ⟨fun pins s σ H Q I q => h.run pins s σ H Q I (i σ H Q q)⟩
theorem PT.imp {X : Cx} {e : Expr} {t t' : TT} (h : PT X e t) (i : ∀ σ H Q, t' σ H Q → t σ H Q) : PT X e t' := ⟨fun pins s σ H Q I q => h.run pins s σ H Q I (i σ H Q q)⟩
theorem PA.imp {X : Cx} {e : List Expr} {t t' : TA} (h : PA X e t) (i : ∀ σ H Q, t' σ H Q → t σ H Q) : PA X e t' := ⟨fun pos pins s σ H Q I q => h.run pos pins s σ H Q I (i σ H Q q)⟩
theorem PS.imp {X : Cx} {e : Stmt} {t t' : TS} (h : PS X e t) (i : ∀ Dd σ H, t' Dd σ H → t Dd σ H) : PS X e t' := ⟨fun pins s σ H Q I q => h.run pins s σ H Q I (i Q σ H q)⟩
theorem PSs.imp {X : Cx} {e : List Stmt} {t t' : TS} (h : PSs X e t) (i : ∀ Dd σ H, t' Dd σ H → t Dd σ H) : PSs X e t' := ⟨fun pins s σ H Q I q => h.run pins s σ H Q I (i Q σ H q)⟩
section
variable {f : Fm} {W : WX} {σ : L2.St} {G G1 : Hp}
theorem PostX.up {α : Type} {Q : α → Hp → Hp → Prop} {r : Re α} (s : Same G G1) (h : PostX f W σ G Q r) : PostX f W σ G1 Q r := by
  cases r with
  | ok a ρ => exact fun G' H' s' => h G' H' (same_trans s s')
  | er e ρ => exact fun cls dd G' H' s' => h cls dd G' H' (same_trans s s')
  | no => exact h
/-- a part's end, by what comes behind it -/
theorem PostX.bind {α β : Type} {Q : β → Hp → Hp → Prop} {Q' : α → Hp → Hp → Prop} {r : Re α} {k : α → Ev → Re β} (h : PostX f W σ G Q (r.bind k))
    (i : ∀ a ρ' G' H', Same G G' → FI f G' H' σ ρ' → PostX f W σ G' Q (k a ρ') → Q' a G' H') : PostX f W σ G Q' r := by
  cases r with
  | ok a ρ => exact fun G' H' s fi => i a ρ G' H' s fi (PostX.up s h)
  | er e ρ => exact h
  | no => exact h
theorem PostS.up {Dd : Ends} {r : Re Fl} (s : Same G G1) (h : PostS f W G Dd r) : PostS f W G1 Dd r := by
  cases r with
  | ok a ρ => exact fun σ' G' H' s' => h σ' G' H' (same_trans s s')
  | er e ρ => exact fun cls dd σ' G' H' s' => h cls dd σ' G' H' (same_trans s s')
  | no => exact h
theorem PostS.bindX {α : Type} {Dd : Ends} {Q' : α → Hp → Hp → Prop} {r : Re α} {k : α → Ev → Re Fl} (h : PostS f W G Dd (r.bind k))
    (i : ∀ a ρ' G' H', Same G G' → FI f G' H' σ ρ' → PostS f W G' Dd (k a ρ') → Q' a G' H') : PostX f W σ G Q' r := by
  cases r with
  | ok a ρ => exact fun G' H' s fi => i a ρ G' H' s fi (PostS.up s h)
  | er e ρ => exact fun cls dd G' H' s fi er => h cls dd σ G' H' s fi er
  | no => exact h
end
end Dx

set_option Elab.async false
set_option linter.all false
set_option maxRecDepth 100000
set_option maxHeartbeats 4000000
namespace Dx
open PySem PySem.Spec PyProof.Rows L2 Gd
section
variable {f : Fm} {G H G' H' : Hp} {σ : L2.St} {ρ : Ev}

/-! ### what a frame does -/
theorem FI.lt (h : FI f G H σ ρ) {i : Nat} {s : Slot} (e : ρ[i]? = some s) : i < σ.length := by
  rw [h.len]; exact (List.getElem?_eq_some_iff.mp e).1
/-- a mutable slot's address -/
theorem FI.at (h : FI f G H σ ρ) {i : Nat} {s : Slot} (e : ρ[i]? = some s) (m : s.mut = true) : ∃ p c, σ[i]? = some (some (.ref p)) ∧ CellR f.g G H p c ∧ (s = .own c ∧ f.H0 p = none ∨ s = .bor c ∧ f.ps[i]? = some p) := by
  have q := h.sl i s e
  cases s with
  | no => cases m
  | dat d => cases m
  | own c => obtain ⟨p, a, b, z⟩ := q; exact ⟨p, c, a, b, .inl ⟨rfl, z⟩⟩
  | bor c => obtain ⟨p, a, b, r⟩ := q; exact ⟨p, c, b, r, .inr ⟨rfl, a⟩⟩
/-- a slot is given data -/
theorem FI.setDat (h : FI f G H σ ρ) {i : Nat} {v : V} {d : D} (r : Rp f.g G v d) (nb : ∀ c, ρ[i]? ≠ some (.bor c)) : FI f G H (σ.set i (some v)) (ρ.set i (.dat d)) := by
  refine ⟨h.gh, h.gr, by simp [h.len], fun j s e => ?_, fun j k s t p e1 e2 m1 m2 a1 a2 => ?_, fun k p e => ?_, fun q hq => ?_, h.np⟩
  · by_cases hj : i = j
    · subst hj
      have hi : i < ρ.length := by have := (List.getElem?_eq_some_iff.mp e).1; simpa using this
      rw [List.getElem?_set_self hi] at e
      cases e
      exact ⟨v, by rw [List.getElem?_set_self (by rw [h.len]; exact hi)], r⟩
    · rw [List.getElem?_set_ne hj] at e
      have q := h.sl j s e
      cases s with
      | no => trivial
      | dat d' => obtain ⟨v', e', r'⟩ := q; exact ⟨v', by rw [List.getElem?_set_ne hj]; exact e', r'⟩
      | own c => obtain ⟨p, e', r', z⟩ := q; exact ⟨p, by rw [List.getElem?_set_ne hj]; exact e', r', z⟩
      | bor c => obtain ⟨p, z, e', r'⟩ := q; exact ⟨p, z, by rw [List.getElem?_set_ne hj]; exact e', r'⟩
  · have n1 : i ≠ j := by
      rintro rfl
      have hi : i < ρ.length := by have := (List.getElem?_eq_some_iff.mp e1).1; simpa using this
      rw [List.getElem?_set_self hi] at e1; cases e1; cases m1
    have n2 : i ≠ k := by
      rintro rfl
      have hi : i < ρ.length := by have := (List.getElem?_eq_some_iff.mp e2).1; simpa using this
      rw [List.getElem?_set_self hi] at e2; cases e2; cases m2
    rw [List.getElem?_set_ne n1] at e1 a1
    rw [List.getElem?_set_ne n2] at e2 a2
    exact h.ap j k s t p e1 e2 m1 m2 a1 a2
  · obtain ⟨c, e'⟩ := h.bo k p e
    refine ⟨c, ?_⟩
    by_cases hk : i = k
    · subst hk; exact absurd e' (nb c)
    · rw [List.getElem?_set_ne hk]; exact e'
  · obtain ⟨a, b, c, d'⟩ := h.pr q hq
    refine ⟨a, b, c, fun j s e m => ?_⟩
    have n1 : i ≠ j := by
      rintro rfl
      have hi : i < ρ.length := by have := (List.getElem?_eq_some_iff.mp e).1; simpa using this
      rw [List.getElem?_set_self hi] at e; cases e; cases m
    rw [List.getElem?_set_ne n1] at e ⊢
    exact d' j s e m
/-- a slot is given a new cell of its own -/
theorem FI.setOwn (h : FI f G H σ ρ) {i : Nat} {p : Addr} {c : Cell} (r : CellR f.g G H p c) (h0 : f.H0 p = none) (nb : ∀ c, ρ[i]? ≠ some (.bor c))
    (new : ∀ (j : Nat) (s : Slot), ρ[j]? = some s → s.mut = true → σ[j]? ≠ some (some (V.ref p))) (npr : ∀ q ∈ f.pr, q.1 ≠ p) : FI f G H (σ.set i (some (.ref p))) (ρ.set i (.own c)) := by
  have lt : ∀ {s}, (ρ.set i (.own c))[i]? = some s → i < ρ.length := fun e => by have := (List.getElem?_eq_some_iff.mp e).1; simpa using this
  refine ⟨h.gh, h.gr, by simp [h.len], fun j s e => ?_, fun j k s t q e1 e2 m1 m2 a1 a2 => ?_, fun k q e => ?_, fun q hq => ?_, h.np⟩
  · by_cases hj : i = j
    · subst hj
      have hi := lt e
      rw [List.getElem?_set_self hi] at e
      cases e
      exact ⟨p, by rw [List.getElem?_set_self (by rw [h.len]; exact hi)], r, h0⟩
    · rw [List.getElem?_set_ne hj] at e
      have q := h.sl j s e
      cases s with
      | no => trivial
      | dat d' => obtain ⟨v', e', r'⟩ := q; exact ⟨v', by rw [List.getElem?_set_ne hj]; exact e', r'⟩
      | own c => obtain ⟨p, e', r', z⟩ := q; exact ⟨p, by rw [List.getElem?_set_ne hj]; exact e', r', z⟩
      | bor c => obtain ⟨p, z, e', r'⟩ := q; exact ⟨p, z, by rw [List.getElem?_set_ne hj]; exact e', r'⟩
  · by_cases n1 : i = j
    · subst n1
      by_cases n2 : i = k
      · exact n2
      · have hi := lt e1
        rw [List.getElem?_set_self (by rw [h.len]; exact hi)] at a1
        cases a1
        rw [List.getElem?_set_ne n2] at e2 a2
        exact absurd a2 (new k t e2 m2)
    · by_cases n2 : i = k
      · subst n2
        have hi := lt e2
        rw [List.getElem?_set_self (by rw [h.len]; exact hi)] at a2
        cases a2
        rw [List.getElem?_set_ne n1] at e1 a1
        exact absurd a1 (new j s e1 m1)
      · rw [List.getElem?_set_ne n1] at e1 a1
        rw [List.getElem?_set_ne n2] at e2 a2
        exact h.ap j k s t q e1 e2 m1 m2 a1 a2
  · obtain ⟨c', e'⟩ := h.bo k q e
    refine ⟨c', ?_⟩
    by_cases hk : i = k
    · subst hk; exact absurd e' (nb c')
    · rw [List.getElem?_set_ne hk]; exact e'
  · obtain ⟨a, b, c', d'⟩ := h.pr q hq
    refine ⟨a, b, c', fun j s e m => ?_⟩
    by_cases n1 : i = j
    · subst n1
      have hi := lt e
      rw [List.getElem?_set_self (by rw [h.len]; exact hi)]
      intro z
      exact npr q hq (by injection z with z; injection z with z; injection z with z; exact z.symm)
    · rw [List.getElem?_set_ne n1] at e ⊢
      exact d' j s e m
/-- the frame behind a change of the cells at ps (a call's, a store's) -/
theorem FI.cell (h : FI f G H σ ρ) {i : Nat} {s s' : Slot} {p : Addr} {c' : Cell} (e : ρ[i]? = some s) (m : s.mut = true) (ep : σ[i]? = some (some (.ref p))) (w : Grow [p] G H G' H') (sg : Same G' H') (r : CellR f.g G' H' p c')
    (hs : s' = s.put c') : FI f G' H' σ (ρ.set i s') := by
  have hi := (List.getElem?_eq_some_iff.mp e).1
  have mut' : s'.mut = true := by subst hs; cases s <;> first | rfl | cases m
  have pin : ∀ q ∈ f.ps, H q ≠ none := h.psH
  have hH : ∀ q o, q ≠ p → H q = some o → H' q = some o := fun q o n x => w.h q o (by simpa using n) x
  have cr : ∀ {q c}, q ≠ p → CellR f.g G H q c → CellR f.g G' H' q c := fun {q c} n x => by
    have t := x.th
    have fr : ∀ b, H b ≠ none → G b = none → G' b = none := fun b hb g0 => (w.f b hb).trans g0
    cases c with
    | lst ds => obtain ⟨g0, z, xs, e1, r1⟩ := x; exact ⟨fr q t g0, z, xs, hH _ _ n e1, r1.up w.g⟩
    | dic ks => obtain ⟨g0, z, xs, e1, e2, r1⟩ := x; exact ⟨fr q t g0, z, xs, hH _ _ n e1, e2, r1.up w.g⟩
    | ins c fs =>
      obtain ⟨g0, C, dx, fv, e1, e2, mm, q', r1⟩ := x
      exact ⟨fr q t g0, C, dx, fv, hH _ _ n e1, w.g _ _ e2, mm, q', r1.up w.g⟩
  have inps : ∀ b, b ∉ f.ps → b = p → f.H0 p = none := fun b hb hbp => by
    subst hbp
    obtain ⟨p', c2, a1, _, a3⟩ := h.at e m
    rw [ep] at a1; cases a1
    rcases a3 with ⟨_, z⟩ | ⟨_, z⟩
    · exact z
    · exact absurd (List.mem_of_getElem? z) hb
  refine ⟨sg, ⟨same_trans h.gr.g w.g, fun b o nb e0 => ?_, fun b hb => ?_⟩, by simp [h.len], fun j t ej => ?_, fun j k t u q e1 e2 m1 m2 a1 a2 => ?_, fun k q ek => ?_, fun q hq => ?_, h.np⟩
  · have x := h.gr.h b o nb e0
    refine hH b o (fun z => ?_) x
    rw [z, inps b nb z] at e0; cases e0
  · have hb' : H b ≠ none := fun z => by
      by_cases hm : b ∈ f.ps
      · exact pin b hm z
      · cases e0 : f.H0 b with
        | none => exact hb e0
        | some o => rw [h.gr.h b o hm e0] at z; cases z
    exact (w.f b hb').trans (h.gr.f b hb)
  · by_cases hj : i = j
    · subst hj
      rw [List.getElem?_set_self hi] at ej
      cases ej
      obtain ⟨p', c2, a1, _, a3⟩ := h.at e m
      rw [ep] at a1; cases a1
      rcases a3 with ⟨rfl, z⟩ | ⟨rfl, z⟩
      · subst hs; exact ⟨p, ep, r, z⟩
      · subst hs; exact ⟨p, z, ep, r⟩
    · rw [List.getElem?_set_ne hj] at ej
      have q := h.sl j t ej
      have npj : t.mut = true → ∀ p', σ[j]? = some (some (.ref p')) → p' ≠ p := fun mt p' e' z => by
        subst z
        exact hj (h.ap i j s t p' e ej m mt ep e')
      cases t with
      | no => trivial
      | dat d' => obtain ⟨v', e', r'⟩ := q; exact ⟨v', e', r'.up w.g⟩
      | own c => obtain ⟨p', e', r', z⟩ := q; exact ⟨p', e', cr (npj rfl p' e') r', z⟩
      | bor c => obtain ⟨p', z, e', r'⟩ := q; exact ⟨p', z, e', cr (npj rfl p' e') r'⟩
  · have back : ∀ {j : Nat} {t : Slot}, (ρ.set i s')[j]? = some t → t.mut = true → ∃ t', ρ[j]? = some t' ∧ t'.mut = true := fun {j t} ej mt => by
      by_cases hj : i = j
      · subst hj; exact ⟨s, e, m⟩
      · rw [List.getElem?_set_ne hj] at ej; exact ⟨t, ej, mt⟩
    obtain ⟨t1, x1, y1⟩ := back e1 m1
    obtain ⟨t2, x2, y2⟩ := back e2 m2
    exact h.ap j k t1 t2 q x1 x2 y1 y2 a1 a2
  · obtain ⟨c0, e'⟩ := h.bo k q ek
    by_cases hk : i = k
    · subst hk
      rw [e] at e'; cases e'
      exact ⟨c', by rw [List.getElem?_set_self hi, hs]; rfl⟩
    · exact ⟨c0, by rw [List.getElem?_set_ne hk]; exact e'⟩
  · obtain ⟨a, b, c0, d'⟩ := h.pr q hq
    have nq : q.1 ≠ p := fun z => d' i s e m (by rw [z]; exact ep)
    refine ⟨hH _ _ nq a, (w.f q.1 (by rw [a]; exact fun z => nomatch z)).trans b, c0, fun j t ej mt => ?_⟩
    by_cases hj : i = j
    · subst hj; exact d' i s e m
    · rw [List.getElem?_set_ne hj] at ej; exact d' j t ej mt
/-- own cells whose content is data -/
def Cell.frz : Cell → Option D
  | .lst ds => some (.lst ds)
  | .dic ks => some (.dic ks)
  | .ins c fs => some (.obj c fs)
/-- what stands at the place of a cell of one's own becomes o', and is data from now on -/
theorem FI.frzAt (h : FI f G H σ ρ) {i : Nat} {c : Cell} {d : D} {p : Addr} {o o' : HO} (e : ρ[i]? = some (.own c)) (ep : σ[i]? = some (some (.ref p))) (ho : H p = some o) (nop : ∀ q, o ≠ .own q) (z : f.H0 p = none) (gp : G p = none)
    (rp : ∀ G', Same G G' → G' p = some o' → Rp f.g G' (.ref p) d) : Same G (upd G p o') ∧ FI f (upd G p o') (upd H p o') σ (ρ.set i (.dat d)) ∧ Rp f.g (upd G p o') (.ref p) d := by
  have hi := (List.getElem?_eq_some_iff.mp e).1
  have sg : Same G (upd G p o') := same_new gp
  have rr := rp (upd G p o') sg upd_same
  have cr : ∀ {q c2}, q ≠ p → CellR f.g G H q c2 → CellR f.g (upd G p o') (upd H p o') q c2 := fun {q c2} n x => by
    cases c2 with
    | lst ds => obtain ⟨g0, z, xs, e1, r1⟩ := x; exact ⟨(upd_ne n).trans g0, z, xs, (upd_ne n).trans e1, r1.up sg⟩
    | dic ks => obtain ⟨g0, z, xs, e1, e2, r1⟩ := x; exact ⟨(upd_ne n).trans g0, z, xs, (upd_ne n).trans e1, e2, r1.up sg⟩
    | ins c fs =>
      obtain ⟨g0, C, dx, fv, e1, e2, mm, q', r1⟩ := x
      exact ⟨(upd_ne n).trans g0, C, dx, fv, (upd_ne n).trans e1, sg _ _ e2, mm, q', r1.up sg⟩
  refine ⟨sg, ⟨fun b u eb => ?_, ⟨same_trans h.gr.g sg, fun b u nb e0 => ?_, fun b hb => ?_⟩, by simp [h.len], fun j t ej => ?_, fun j k t u q e1 e2 m1 m2 a1 a2 => ?_, fun k q ek => ?_, fun q hq => ?_, h.np⟩, rr⟩
  · by_cases hbp : b = p
    · subst hbp; rw [upd_same] at eb ⊢; exact eb
    · rw [upd_ne hbp] at eb ⊢; exact h.gh b u eb
  · rw [upd_ne (ne_of_none e0 z)]; exact h.gr.h b u nb e0
  · have : b ≠ p := fun z2 => hb (by rw [z2]; exact z)
    rw [upd_ne this]
    exact h.gr.f b hb
  · by_cases hj : i = j
    · subst hj
      rw [List.getElem?_set_self hi] at ej
      cases ej
      exact ⟨_, ep, rr⟩
    · rw [List.getElem?_set_ne hj] at ej
      have q := h.sl j t ej
      have npj : t.mut = true → ∀ p', σ[j]? = some (some (.ref p')) → p' ≠ p := fun mt p' e' z => by
        subst z
        exact hj (h.ap i j _ t p' e ej rfl mt ep e')
      cases t with
      | no => trivial
      | dat d' => obtain ⟨v', e', r'⟩ := q; exact ⟨v', e', r'.up sg⟩
      | own c => obtain ⟨p', e', r', z⟩ := q; exact ⟨p', e', cr (npj rfl p' e') r', z⟩
      | bor c => obtain ⟨p', z, e', r'⟩ := q; exact ⟨p', z, e', cr (npj rfl p' e') r'⟩
  · have back : ∀ {j : Nat} {t : Slot}, (ρ.set i (.dat d))[j]? = some t → t.mut = true → ρ[j]? = some t := fun {j t} ej mt => by
      by_cases hj : i = j
      · subst hj; rw [List.getElem?_set_self hi] at ej; cases ej; cases mt
      · rw [List.getElem?_set_ne hj] at ej; exact ej
    exact h.ap j k t u q (back e1 m1) (back e2 m2) m1 m2 a1 a2
  · obtain ⟨c0, e'⟩ := h.bo k q ek
    by_cases hk : i = k
    · subst hk; rw [e] at e'; cases e'
    · exact ⟨c0, by rw [List.getElem?_set_ne hk]; exact e'⟩
  · obtain ⟨a, b, c0, d'⟩ := h.pr q hq
    have nq : q.1 ≠ p := fun z => d' i _ e rfl (by rw [z]; exact ep)
    refine ⟨(upd_ne nq).trans a, (upd_ne nq).trans b, c0, fun j t ej mt => ?_⟩
    by_cases hj : i = j
    · subst hj; rw [List.getElem?_set_self hi] at ej; cases ej; cases mt
    · rw [List.getElem?_set_ne hj] at ej; exact d' j t ej mt
theorem upd_eta {H : Hp} {p : Addr} {o : HO} (h : H p = some o) : upd H p o = H := by
  funext b
  by_cases e : b = p
  · subst e; rw [upd_same, h]
  · rw [upd_ne e]
/-- a cell of one's own is frozen; a dict is locked with it -/
def FrzAs (H : Hp) (p : Addr) (R : Hp → Prop) : Prop := R H ∨ ∃ kvs, H p = some (.dK kvs) ∧ ∀ od, R (upd H p (.frz od (.dK kvs)))
theorem FI.freeze (h : FI f G H σ ρ) {i : Nat} {c : Cell} {d : D} (e : ρ[i]? = some (.own c)) (hd : c.frz = some d) :
    ∃ p, σ[i]? = some (some (.ref p)) ∧ FrzAs H p fun H' => ∃ G', Same G G' ∧ FI f G' H' σ (ρ.set i (.dat d)) ∧ Rp f.g G' (.ref p) d := by
  obtain ⟨p, ep, r, z⟩ := h.sl i _ e
  refine ⟨p, ep, ?_⟩
  cases c with
  | lst ds =>
    obtain ⟨gp, n, xs, e1, r1⟩ := r
    cases hd
    obtain ⟨a, b, c⟩ := h.frzAt (o' := .lst xs) (d := .lst ds) e ep e1 (fun _ z => by cases z) z gp fun G' s q => .lst q n (r1.up s)
    rw [upd_eta e1] at b
    exact .inl ⟨_, a, b, c⟩
  | dic ks =>
    obtain ⟨gp, n, xs, e1, e2, r1⟩ := r
    cases hd
    exact .inr ⟨xs, e1, fun od => ⟨_, h.frzAt (o' := .frz od (.dK xs)) (d := .dic ks) e ep e1 (fun _ z => by cases z) z gp fun G' s q => .dic q n e2 (r1.up s)⟩⟩
  | ins c fs =>
    obtain ⟨gp, C, dx, fv, e1, e2, mm, q, r1⟩ := r
    cases hd
    obtain ⟨a, b, c⟩ := h.frzAt (o' := .ins C dx fv) (d := .obj c fs) e ep e1 (fun _ z => by cases z) z gp fun G' s gp' => .obj gp' (s _ _ e2) mm q (r1.up s)
    rw [upd_eta e1] at b
    exact .inl ⟨_, a, b, c⟩
/-- an object that is out of the frame's reach is changed -/
theorem FI.put (h : FI f G H σ ρ) {p : Addr} {o : HO} (gp : G p = none) (h0 : f.H0 p = none) (nd : ∀ q, H p ≠ some (.own q)) (new : ∀ (j : Nat) (s : Slot), ρ[j]? = some s → s.mut = true → σ[j]? ≠ some (some (V.ref p))) (npr : ∀ q ∈ f.pr, q.1 ≠ p) :
    FI f G (upd H p o) σ ρ := by
  have cr : ∀ {q c2}, q ≠ p → CellR f.g G H q c2 → CellR f.g G (upd H p o) q c2 := fun {q c2} n x => by
    cases c2 with
    | lst ds => obtain ⟨g0, z, xs, e1, r1⟩ := x; exact ⟨g0, z, xs, (upd_ne n).trans e1, r1⟩
    | dic ks => obtain ⟨g0, z, xs, e1, e2, r1⟩ := x; exact ⟨g0, z, xs, (upd_ne n).trans e1, e2, r1⟩
    | ins c fs =>
      obtain ⟨g0, C, dx, fv, e1, e2, mm, q', r1⟩ := x
      exact ⟨g0, C, dx, fv, (upd_ne n).trans e1, e2, mm, q', r1⟩
  refine ⟨fun b u eb => ?_, ⟨h.gr.g, fun b u nb e0 => ?_, h.gr.f⟩, h.len, fun j t ej => ?_, h.ap, h.bo, fun q hq => ?_, h.np⟩
  · rw [upd_ne (ne_of_none eb gp)]; exact h.gh b u eb
  · rw [upd_ne (ne_of_none e0 h0)]; exact h.gr.h b u nb e0
  · have q := h.sl j t ej
    cases t with
    | no => trivial
    | dat d' => exact q
    | own c => obtain ⟨p', e', r', z⟩ := q; exact ⟨p', e', cr (fun z => new j _ ej rfl (by rw [← z]; exact e')) r', z⟩
    | bor c => obtain ⟨p', z, e', r'⟩ := q; exact ⟨p', z, e', cr (fun z => new j _ ej rfl (by rw [← z]; exact e')) r'⟩
  · obtain ⟨a, b, c0, d'⟩ := h.pr q hq
    exact ⟨(upd_ne (npr q hq)).trans a, b, c0, d'⟩
end
end Dx

set_option Elab.async false
set_option linter.all false
set_option maxRecDepth 100000
set_option maxHeartbeats 4000000
/-! the data layer: expressions -/
namespace Dx
open PySem PySem.Spec PyProof.Rows L2 Gd

/-! ### names and constants -/
@[simp] def eC (d : D) : EV := fun ρ => .ok d ρ
@[simp] def eV (i : Nat) : EV := fun ρ => match ρ[i]? with
  | some (.dat d) => .ok d ρ
  | some (.own c) => match c.frz with
    | some d => .ok d (ρ.set i (.dat d))
    | none => .no
  | _ => .no
section
variable {X : Cx} {f : Fm} {W : WX}
/-- a value whose dict may be locked behind it -/
theorem pe_lockR {e : Expr} {t : TE} (h : PE X e t) : PE X e (fun σ H Q => t σ H fun v H1 => Q v H1 ∨ ∃ d kvs, v = .ref d ∧ H1 d = some (.dK kvs) ∧ ∀ od, Q v (upd H1 d (.frz od (.dK kvs)))) :=
  ⟨fun pins s σ H Q I hw => thn (h.run pins s σ H _ I hw) fun v s1 ⟨x, H1, I1, r, q⟩ => by
    rcases q with q | ⟨d, kvs, rfl, hd, q⟩
    · exact ⟨x, H1, I1, r, q⟩
    · obtain ⟨od, I2⟩ := I1.lock hd trivial
      exact ⟨_, _, I2, r, q od⟩⟩
theorem FrzAs.res {H : Hp} {p : Addr} {R : Hp → Prop} {Q : VK} (h : FrzAs H p R) (k : ∀ H', R H' → Q (.ref p) H') : Q (.ref p) H ∨ ∃ d kvs, V.ref p = .ref d ∧ H d = some (.dK kvs) ∧ ∀ od, Q (.ref p) (upd H d (.frz od (.dK kvs))) :=
  h.elim (fun a => .inl (k _ a)) fun ⟨kvs, e, a⟩ => .inr ⟨p, kvs, rfl, e, fun od => k _ (a od)⟩
theorem px_c {e : Expr} {v : V} {d : D} (h : PE X e (tC v)) (r : ∀ G, Rp f.g G v d) : PX X f W e (eC d) := PE.imp h fun σ H Q ⟨G, ρ, fi, q⟩ => q G H same_rfl fi v (r G)
theorem px_int {i : Int} {j pos} : PX X f W (.Constant (.int i) j pos) (eC (.int i)) := px_c pe_int fun _ => .int i
theorem px_bl {b : Bool} {j pos} : PX X f W (.Constant (.bool b) j pos) (eC (.bl b)) := px_c pe_bl fun _ => .bl b
theorem px_non {j pos} : PX X f W (.Constant .none j pos) (eC .non) := px_c pe_non fun _ => .non
theorem px_str {x : Str} {j pos} (h : x.length ≤ big := by decide +kernel) (o : PyData.strOk x = true := by decide +kernel) : PX X f W (.Constant (.str x) j pos) (eC (.str x)) := px_c pe_str fun _ => .str x h o
/-- a constant of the module -/
def Kd (g : Gm) (x : Str) (d : D) : Prop := ∃ v u, g.mg x = some u ∧ RelV v u ∧ ∀ G, Rp g G v d
theorem px_k {x : Str} {d : D} {pos : Pos} (k : Kd f.g x d) (hm : X.mg = f.g.mg := by rfl) (hg : Gl X x := by rfl) (hdb : (x == ("__debug__" : Str)) = false := by decide) : PX X f W (.Name x pos) (eC d) := by
  obtain ⟨v, u, h, r, rp⟩ := k
  exact px_c (pe_glob hg (by rw [hm]; exact h) r hdb) rp
/-- a built-in class -/
theorem px_ty {x : Str} {n : String} {pos : Pos} (hm : X.mg x = none) (hv : bootBuiltins x = some (.type n) := by decide +kernel) (hg : Gl X x := by rfl) (hn : x ≠ "__name__" := by decide) (hd : (x == ("__debug__" : Str)) = false := by decide) :
    PX X f W (.Name x pos) (eC (.ty n)) := px_c (pe_bltn (v := V.ty n) hg hm hv rfl hn hd) fun _ => .ty n
theorem px_v {i : Nat} {x : Str} {pos : Pos} (hN : X.N[i]? = some x) (hv : Vis X.env.scope x := by first | exact Or.inl rfl | exact Or.inr (Or.inl rfl) | exact Or.inr (Or.inr rfl)) (hd : (x == ("__debug__" : Str)) = false := by decide) (hcd : (x == ("__classdict__" : Str)) = false := by decide) : PX X f W (.Name x pos) (eV i) :=
  PE.imp (pe_lockR (pe_var hN hv hd hcd)) fun σ H Q ⟨G, ρ, fi, q⟩ => by
    unfold eV at q
    split at q
    · rename_i d e
      obtain ⟨v, e1, r⟩ := fi.sl i _ e
      exact ⟨v, e1, .inl (q G H same_rfl fi v r)⟩
    · rename_i c e
      split at q
      · rename_i d hd
        obtain ⟨p, e1, fz⟩ := fi.freeze e hd
        exact ⟨_, e1, fz.res fun H' ⟨G', s, fi', r⟩ => q G' H' s fi' _ r⟩
      · exact q.elim
    · exact q.elim
end

/-! ### operators -/
/-- what an operator gives, by the data -/
def rX2 (g : Gm) (F : D → D → Option D) : R2 := fun x y H Q => ∃ G d e r, Same G H ∧ Rp g G x d ∧ Rp g G y e ∧ F d e = some r ∧ ∀ v G' H', Ext G H G' H' → Rp g G' v r → Q v H'
abbrev OpX (X : Cx) (g : Gm) (fn : Value → Value → Sem Value) (F : D → D → Option D) : Prop := OpR X fn (rX2 g F)
@[simp] def Re.opt {α : Type} (ρ : Ev) : Option α → Re α
  | some a => .ok a ρ
  | none => .no
@[simp] def eOp (F : D → D → Option D) (a b : EV) : EV := fun ρ => (a ρ).bind fun x ρ1 => (b ρ1).bind fun y ρ2 => Re.opt ρ2 (F x y)
@[simp] def bOf (e : EV) : BV := fun ρ => (e ρ).bind fun x ρ1 => match x with
  | .bl b => .ok b ρ1
  | _ => .no
section
variable {X : Cx} {f : Fm} {W : WX} {a b c : Expr} {ea eb ec : EV} {F F' : D → D → Option D} {pos : Pos}
theorem two {σ : L2.St} {H : Hp} {Q : VK} (h : tX f W (eOp F ea eb) σ H Q) : tOp (rX2 f.g F) (tX f W ea) (tX f W eb) σ H Q := by
  obtain ⟨G, ρ, fi, q⟩ := h
  refine ⟨G, ρ, fi, q.bind fun d ρ1 G1 H1 s1 fi1 q1 v rv => ⟨G1, ρ1, fi1, q1.bind fun e ρ2 G2 H2 s2 fi2 q2 u ru => ?_⟩⟩
  cases hF : F d e with
  | none => rw [hF] at q2; exact q2.elim
  | some r =>
    rw [hF] at q2
    exact ⟨G2, d, e, r, fi2.gh, rv.up s2, ru, hF, fun w G' H' x rw' => q2 G' H' x.g (fi2.ext x) w rw'⟩
theorem px_op {op : Operator} (ho : OpX X f.g (binaryOp op) F) (ha : PX X f W a ea) (hb : PX X f W b eb) : PX X f W (.BinOp a op b pos) (eOp F ea eb) := PE.imp (pe_op ho ha hb) fun _ _ _ h => two h
theorem px_cmp {op : CmpOp} (ho : OpX X f.g (compareOp op) F) (ha : PX X f W a ea) (hb : PX X f W b eb) (hm : behindInMarks op b = false) : PX X f W (.Compare a [op] [b] pos) (eOp F ea eb) := PE.imp (pe_cmpR ho ha hb hm) fun _ _ _ h => two h
theorem tX_bOf {ev : EV} {σ : L2.St} {H : Hp} {Q : Bool → Hp → Prop} (h : tXB f W (bOf ev) σ H Q) : tX f W ev σ H fun x H' => ∃ k, x = .bl k ∧ Q k H' := by
  obtain ⟨G, ρ, fi, q⟩ := h
  refine ⟨G, ρ, fi, PostX.bind q fun d ρ1 G1 H1 s1 fi1 q1 v rv => ?_⟩
  cases rv <;> first | exact q1.elim | skip
  exact ⟨_, rfl, q1 G1 H1 same_rfl fi1⟩
theorem pxb_cmp {op : CmpOp} (ho : OpX X f.g (compareOp op) F) (ha : PX X f W a ea) (hb : PX X f W b eb) (hm : behindInMarks op b = false) : PXB X f W (.Compare a [op] [b] pos) (bOf (eOp F ea eb)) :=
  PT.imp (pt_cmpR ho ha hb hm) fun _ _ _ h => two (tX_bOf h)
/-- a op1 b op2 c -/
@[simp] def eChain (F F' : D → D → Option D) (ea eb ec : EV) : EV := fun ρ => (ea ρ).bind fun x ρ1 => (eb ρ1).bind fun y ρ2 => match F x y with
  | some (.bl true) => (ec ρ2).bind fun z ρ3 => Re.opt ρ3 (F' y z)
  | some (.bl false) => .ok (.bl false) ρ2
  | _ => .no
theorem chain {σ : L2.St} {H : Hp} {Q : VK} (h : tX f W (eChain F F' ea eb ec) σ H Q) : tChain (rX2 f.g F) (rX2 f.g F') (tX f W ea) (tX f W eb) (tX f W ec) σ H Q := by
  obtain ⟨G, ρ, fi, q⟩ := h
  refine ⟨G, ρ, fi, q.bind fun d ρ1 G1 H1 s1 fi1 q1 v rv => ⟨G1, ρ1, fi1, q1.bind fun e ρ2 G2 H2 s2 fi2 q2 u ru => ?_⟩⟩
  have hb : ∃ k, F d e = some (.bl k) := by
    cases hF : F d e with
    | none => rw [hF] at q2; exact q2.elim
    | some r => cases r <;> first | exact ⟨_, rfl⟩ | (rw [hF] at q2; exact q2.elim)
  obtain ⟨k, hF⟩ := hb
  rw [hF] at q2
  refine ⟨G2, d, e, .bl k, fi2.gh, rv.up s2, ru, hF, fun w G3 H3 x rw' => ?_⟩
  cases rw'
  refine ⟨k, rfl, ?_⟩
  cases k with
  | false => exact q2 G3 H3 x.g (fi2.ext x) (V.bl false) (.bl false)
  | true =>
    refine ⟨G3, ρ2, fi2.ext x, PostX.up x.g (PostX.bind (k := fun z ρ3 => Re.opt ρ3 (F' e z)) q2 fun z ρ3 G4 H4 s4 fi4 q4 w' rz => ?_)⟩
    -- G2 ≤ G4 only: y's datum moves by s4
    cases hF' : F' e z with
    | none => rw [hF'] at q4; exact q4.elim
    | some r =>
      rw [hF'] at q4
      exact ⟨G4, e, z, r, fi4.gh, ru.up s4, rz, hF', fun w2 G5 H5 x5 r5 => q4 G5 H5 x5.g (fi4.ext x5) w2 r5⟩
theorem px_chain {op op' : CmpOp} (ho : OpX X f.g (compareOp op) F) (ho' : OpX X f.g (compareOp op') F') (ha : PX X f W a ea) (hb : PX X f W b eb) (hc : PX X f W c ec) (hm : lastMarks [op, op'] [b, c] = false := by with_unfolding_all rfl) :
    PX X f W (.Compare a [op, op'] [b, c] pos) (eChain F F' ea eb ec) := PE.imp (pe_chain ho ho' ha hb hc hm) fun _ _ _ h => chain h
theorem pxb_chain {op op' : CmpOp} (ho : OpX X f.g (compareOp op) F) (ho' : OpX X f.g (compareOp op') F') (ha : PX X f W a ea) (hb : PX X f W b eb) (hc : PX X f W c ec) (hm : lastMarks [op, op'] [b, c] = false := by with_unfolding_all rfl) :
    PXB X f W (.Compare a [op, op'] [b, c] pos) (bOf (eChain F F' ea eb ec)) := PT.imp (pt_chain ho ho' ha hb hc hm) fun _ _ _ h => chain (tX_bOf h)

/-! ### tests -/
theorem pxb_val {e : Expr} {ev : EV} (h : PX X f W e ev) (he : ∀ whole, isTrue e X.env whole = (do let v ← whole; standAt e.pos; holding [v] (truthy v)) := by intro _; rfl) : PXB X f W e (bOf ev) := PT.imp (pt_val h he) fun _ _ _ q => tX_bOf q
def truD : D → Option Bool
  | .non => some false
  | .bl b => some b
  | .int i => some (i != 0)
  | .str x => some (x.length != 0)
  | .tup ds => some (!ds.isEmpty)
  | .lst ds => some (!ds.isEmpty)
  | _ => none
@[simp] def bTru (e : EV) : BV := fun ρ => (e ρ).bind fun x ρ1 => Re.opt ρ1 (truD x)
theorem isEmptyL {g : Gm} {G : Hp} {xs : List V} {ds : List D} (r : RpL g G xs ds) : xs.isEmpty = ds.isEmpty := by cases r <;> rfl
theorem truV_of {g : Gm} {G H : Hp} {v : V} {d : D} {k : Bool} (s : Same G H) (r : Rp g G v d) (h : truD d = some k) : TruV g.K v H k := by
  cases r with
  | non => cases h; rfl
  | bl b => cases h; rfl
  | int i => cases h; rfl
  | str x n o =>
    cases h
    refine ⟨Nat.le_trans n big_le, ?_⟩
    cases hx : x.length with
    | zero => rfl
    | succ k => simp only [bne]; rw [beq_eq_false_iff_ne.mpr (by omega), beq_eq_false_iff_ne.mpr (by omega)]
  | tup q n r => cases h; exact .inr (.inl ⟨_, sqTS s q, by rw [isEmptyL r]⟩)
  | lst q n r => cases h; exact .inl ⟨_, SqL.of (s _ _ q), by rw [isEmptyL r]⟩
  | _ => cases h
theorem pxb_tru {e : Expr} {ev : EV} (h : PX X f W e ev) (he : ∀ whole, isTrue e X.env whole = (do let v ← whole; standAt e.pos; holding [v] (truthy v)) := by intro _; rfl) (hk : X.K = f.g.K := by rfl) : PXB X f W e (bTru ev) :=
  PT.imp (pt_truth h he) fun σ H Q ⟨G, ρ, fi, q⟩ => ⟨G, ρ, fi, PostX.bind q fun d ρ1 G1 H1 s1 fi1 q1 v rv => by
    cases ht : truD d with
    | none => rw [ht] at q1; exact q1.elim
    | some k =>
      rw [ht] at q1
      exact ⟨k, by rw [hk]; exact truV_of fi1.gh rv ht, q1 G1 H1 same_rfl fi1⟩⟩
@[simp] def bNot (t : BV) : BV := fun ρ => (t ρ).bind fun b ρ1 => .ok (!b) ρ1
@[simp] def bAnd (t u : BV) : BV := fun ρ => (t ρ).bind fun b ρ1 => match b with
  | true => u ρ1
  | false => .ok false ρ1
@[simp] def bOr (t u : BV) : BV := fun ρ => (t ρ).bind fun b ρ1 => match b with
  | true => .ok true ρ1
  | false => u ρ1
abbrev PXW (X : Cx) (f : Fm) (W : WX) (e : Expr) (ev : BV) : Prop := PW X e (tXB f W ev)
theorem PW.imp {e : Expr} {t t' : TT} (h : PW X e t) (i : ∀ σ H Q, t' σ H Q → t σ H Q) : PW X e t' := ⟨fun wh pins s σ H Q I q => h.run wh pins s σ H Q I (i σ H Q q)⟩
variable {t u : BV} {rest : List Expr}
theorem pxb_not (h : PXB X f W a t) : PXB X f W (.UnaryOp .Not a pos) (bNot t) := PT.imp (pt_not h) fun σ H Q ⟨G, ρ, fi, q⟩ => ⟨G, ρ, fi, PostX.bind q fun b ρ1 G1 H1 s1 fi1 q1 => q1 G1 H1 same_rfl fi1⟩
theorem pxw_one {op : BoolOp} (h : PXB X f W a t) : op = .And ∨ op = .Or → PXW X f W (.BoolOp op [a] pos) t := fun e => by
  rcases e with rfl | rfl
  · exact pw_and1 h
  · exact pw_or1 h
theorem pxw_and (h : PXB X f W a t) (h2 : PXW X f W (.BoolOp .And (b :: rest) pos) u) : PXW X f W (.BoolOp .And (a :: b :: rest) pos) (bAnd t u) :=
  PW.imp (pw_and h h2) fun σ H Q ⟨G, ρ, fi, q⟩ => ⟨G, ρ, fi, PostX.bind q fun b ρ1 G1 H1 s1 fi1 q1 => by
    cases b with
    | true => exact ⟨G1, ρ1, fi1, q1⟩
    | false => exact q1 G1 H1 same_rfl fi1⟩
theorem pxw_or (h : PXB X f W a t) (h2 : PXW X f W (.BoolOp .Or (b :: rest) pos) u) : PXW X f W (.BoolOp .Or (a :: b :: rest) pos) (bOr t u) :=
  PW.imp (pw_or h h2) fun σ H Q ⟨G, ρ, fi, q⟩ => ⟨G, ρ, fi, PostX.bind q fun b ρ1 G1 H1 s1 fi1 q1 => by
    cases b with
    | true => exact q1 G1 H1 same_rfl fi1
    | false => exact ⟨G1, ρ1, fi1, q1⟩⟩
theorem PW.pxb {e : Expr} (h : PXW X f W e t) : PXB X f W e t := L2.PW.pt h
/-! .. as values -/
@[simp] def eNot (e : EV) : EV := fun ρ => (e ρ).bind fun x ρ1 => match x with
  | .bl b => .ok (.bl (!b)) ρ1
  | _ => .no
@[simp] def eAnd (x y : EV) : EV := fun ρ => (x ρ).bind fun d ρ1 => match d with
  | .bl true => y ρ1
  | .bl false => .ok (.bl false) ρ1
  | _ => .no
@[simp] def eOr (x y : EV) : EV := fun ρ => (x ρ).bind fun d ρ1 => match d with
  | .bl true => .ok (.bl true) ρ1
  | .bl false => y ρ1
  | _ => .no
@[simp] def eIf (t : BV) (x y : EV) : EV := fun ρ => (t ρ).bind fun b ρ1 => match b with
  | true => x ρ1
  | false => y ρ1
theorem px_one {op : BoolOp} (h : PX X f W a ea) : PX X f W (.BoolOp op [a] pos) ea := pe_one h
theorem px_not (h : PX X f W a ea) : PX X f W (.UnaryOp .Not a pos) (eNot ea) := PE.imp (pe_not h) fun σ H Q ⟨G, ρ, fi, q⟩ => ⟨G, ρ, fi, PostX.bind q fun d ρ1 G1 H1 s1 fi1 q1 v rv => by
  cases rv <;> first | exact q1.elim | skip
  exact ⟨_, rfl, q1 G1 H1 same_rfl fi1 _ (.bl _)⟩⟩
theorem px_and (h : PX X f W a ea) (h2 : PX X f W (.BoolOp .And (b :: rest) pos) eb) : PX X f W (.BoolOp .And (a :: b :: rest) pos) (eAnd ea eb) :=
  PE.imp (pe_and h h2) fun σ H Q ⟨G, ρ, fi, q⟩ => ⟨G, ρ, fi, PostX.bind q fun d ρ1 G1 H1 s1 fi1 q1 v rv => by
    cases rv <;> first | exact q1.elim | skip
    rename_i k
    refine ⟨k, rfl, ?_⟩
    cases k with
    | true => exact ⟨G1, ρ1, fi1, q1⟩
    | false => exact q1 G1 H1 same_rfl fi1 _ (.bl _)⟩
theorem px_or (h : PX X f W a ea) (h2 : PX X f W (.BoolOp .Or (b :: rest) pos) eb) : PX X f W (.BoolOp .Or (a :: b :: rest) pos) (eOr ea eb) :=
  PE.imp (pe_or h h2) fun σ H Q ⟨G, ρ, fi, q⟩ => ⟨G, ρ, fi, PostX.bind q fun d ρ1 G1 H1 s1 fi1 q1 v rv => by
    cases rv <;> first | exact q1.elim | skip
    rename_i k
    refine ⟨k, rfl, ?_⟩
    cases k with
    | true => exact q1 G1 H1 same_rfl fi1 _ (.bl _)
    | false => exact ⟨G1, ρ1, fi1, q1⟩⟩
theorem px_if (h : PXB X f W c t) (h1 : PX X f W a ea) (h2 : PX X f W b eb) : PX X f W (.IfExp c a b pos) (eIf t ea eb) :=
  PE.imp (pe_ifExp h h1 h2) fun σ H Q ⟨G, ρ, fi, q⟩ => ⟨G, ρ, fi, PostX.bind q fun k ρ1 G1 H1 s1 fi1 q1 => by
    cases k with
    | true => exact ⟨G1, ρ1, fi1, q1⟩
    | false => exact ⟨G1, ρ1, fi1, q1⟩⟩
end

/-! ### arguments, tuples, lists -/
@[simp] def aNil : AV := fun ρ => .ok [] ρ
@[simp] def aCons (e : EV) (r : AV) : AV := fun ρ => (e ρ).bind fun d ρ1 => (r ρ1).bind fun ds ρ2 => .ok (d :: ds) ρ2
@[simp] def eTup (a : AV) : EV := fun ρ => (a ρ).bind fun ds ρ1 => if ds.length ≤ big then .ok (.tup ds) ρ1 else .no
@[simp] def eLst (a : AV) : EV := fun ρ => (a ρ).bind fun ds ρ1 => if ds.length ≤ big then .ok (.lst ds) ρ1 else .no
section
variable {X : Cx} {f : Fm} {W : WX} {e : Expr} {es : List Expr} {ev : EV} {av : AV} {pos : Pos}
theorem pxa_nil : PXA X f W [] aNil := PA.imp pa_nil fun σ H Q ⟨G, ρ, fi, q⟩ => q G H same_rfl fi [] .nil
theorem pxa_cons (h : PX X f W e ev) (hr : PXA X f W es av) (hs : starEach (e :: es) X.env = (false, eval e X.env) :: starEach es X.env := by rfl) : PXA X f W (e :: es) (aCons ev av) :=
  PA.imp (pa_cons h hr hs) fun σ H Q ⟨G, ρ, fi, q⟩ => ⟨G, ρ, fi, PostX.bind q fun d ρ1 G1 H1 s1 fi1 q1 v rv => ⟨G1, ρ1, fi1, PostX.bind q1 fun ds ρ2 G2 H2 s2 fi2 q2 vs rvs => q2 G2 H2 same_rfl fi2 _ (.cons (rv.up s2) rvs)⟩⟩
theorem px_tup {x1} (h : PXA X f W es av) : PX X f W (.Tuple es x1 pos) (eTup av) := PE.imp (pe_tup h) fun σ H Q ⟨G, ρ, fi, q⟩ => ⟨G, ρ, fi, PostX.bind q fun ds ρ1 G1 H1 s1 fi1 q1 vs rvs => by
  split at q1
  · rename_i hb
    refine ⟨by rw [rvs.len]; exact Nat.le_trans hb big_le, fun p hp => ?_⟩
    have x := Ext.new (o := .tup vs) fi1.gh hp
    exact q1 _ _ x.g (fi1.ext x) _ (.tup (SqT.of upd_same) hb (rvs.up x.g))
  · exact q1.elim⟩
theorem px_lst (h : PXA X f W es av) : PX X f W (.List es pos) (eLst av) := PE.imp (pe_lst h) fun σ H Q ⟨G, ρ, fi, q⟩ => ⟨G, ρ, fi, PostX.bind q fun ds ρ1 G1 H1 s1 fi1 q1 vs rvs => by
  split at q1
  · rename_i hb
    refine ⟨by rw [rvs.len]; exact Nat.le_trans hb big_le, fun p hp => ?_⟩
    have x := Ext.new (o := .lst vs) fi1.gh hp
    exact q1 _ _ x.g (fi1.ext x) _ (.lst upd_same hb (rvs.up x.g))
  · exact q1.elim⟩
end
end Dx

set_option Elab.async false
set_option linter.all false
set_option maxRecDepth 100000
set_option maxHeartbeats 4000000
/-! the data layer: the operators, the built-ins -/
namespace Dx
open PySem PySem.Spec PyProof.Rows L2 Gd

/-! ### data as the library's -/
mutual
def pd : D → PyData
  | .non => .none
  | .bl b => .bool b
  | .int i => .int i
  | .str x => .str x
  | .tup xs => .tuple (pdL xs)
  | .lst xs => .list (pdL xs)
  | _ => .dict []
def pdL : List D → List PyData
  | [] => []
  | d :: ds => pd d :: pdL ds
end
mutual
/-- no dicts, objects, classes within; to a depth of n -/
def pl : Nat → D → Bool
  | 0, _ => false
  | _ + 1, .non => true
  | _ + 1, .bl _ => true
  | _ + 1, .int _ => true
  | _ + 1, .str _ => true
  | n + 1, .tup xs => plL n xs
  | n + 1, .lst xs => plL n xs
  | _ + 1, _ => false
def plL : Nat → List D → Bool
  | _, [] => true
  | n, d :: ds => pl n d && plL n ds
end
section
variable {g : Gm} {G H : Hp}
mutual
theorem dp_of (s : Same G H) : ∀ (n : Nat) (d : D) (v : V), pl n d = true → Rp g G v d → Dp g.K H v (pd d) ∧ (pd d).canLay0 = true ∧ (pd d).depth ≤ n
  | 0, _, _, h, _ => by unfold pl at h; cases h
  | _ + 1, .non, _, _, r => by cases r; exact ⟨.non, rfl, Nat.zero_le _⟩
  | _ + 1, .bl b, _, _, r => by cases r; exact ⟨.bl b, rfl, Nat.zero_le _⟩
  | _ + 1, .int i, _, _, r => by cases r; exact ⟨.int i, rfl, Nat.zero_le _⟩
  | _ + 1, .str x, _, _, r => by cases r with | str _ _ o => exact ⟨.str x, by unfold pd PyData.canLay0; exact o, Nat.zero_le _⟩
  | n + 1, .tup xs, _, h, r => by
    cases r with
    | tup q z r =>
      obtain ⟨a, b, c⟩ := dpL_of s n xs _ (by unfold pl at h; exact h) r
      exact ⟨by unfold pd; exact .tup (sqTS s q) a, by unfold pd PyData.canLay0; exact b, by unfold pd PyData.depth; omega⟩
  | n + 1, .lst xs, _, h, r => by
    cases r with
    | lst q z r =>
      obtain ⟨a, b, c⟩ := dpL_of s n xs _ (by unfold pl at h; exact h) r
      exact ⟨by unfold pd; exact .lst (SqL.of (s _ _ q)) a, by unfold pd PyData.canLay0; exact b, by unfold pd PyData.depth; omega⟩
  | _ + 1, .dic _, _, h, _ => by unfold pl at h; cases h
  | _ + 1, .obj _ _, _, h, _ => by unfold pl at h; cases h
  | _ + 1, .ty _, _, h, _ => by unfold pl at h; cases h
  | _ + 1, .cls _, _, h, _ => by unfold pl at h; cases h
  | _ + 1, .scr _, _, h, _ => by unfold pl at h; cases h
theorem dpL_of (s : Same G H) : ∀ (n : Nat) (ds : List D) (vs : List V), plL n ds = true → RpL g G vs ds → DpAll g.K H vs (pdL ds) ∧ PyData.canLayAll0 (pdL ds) = true ∧ PyData.depthAll (pdL ds) ≤ n
  | n, [], _, _, r => by cases r; exact ⟨by unfold pdL; exact .nil, by unfold pdL PyData.canLayAll0; rfl, by unfold pdL PyData.depthAll; exact Nat.zero_le _⟩
  | n, d :: ds, _, h, r => by
    cases r with
    | cons r1 r2 =>
      unfold plL at h
      rw [Bool.and_eq_true] at h
      obtain ⟨a, b, c⟩ := dp_of s n d _ h.1 r1
      obtain ⟨a2, b2, c2⟩ := dpL_of s n ds _ h.2 r2
      exact ⟨by unfold pdL; exact .cons a a2, by unfold pdL PyData.canLayAll0; rw [b, b2]; rfl, by unfold pdL PyData.depthAll; omega⟩
end
theorem shaped_of {v : V} {d : D} (s : Same G H) (h : pl 16 d = true) (r : Rp g G v d) : Dp g.K H v (pd d) ∧ SeqAt.shaped (pd d) = true := by
  obtain ⟨a, b, c⟩ := dp_of s 16 d v h r
  refine ⟨a, ?_⟩
  unfold SeqAt.shaped
  rw [b, decide_eq_true (show (pd d).depth ≤ 64 by omega)]
  rfl
end

/-! ### operators -/
def dAdd : D → D → Option D
  | .int i, .int j => some (.int (i + j))
  | .str a, .str b => if a.length + b.length ≤ big then some (.str (a ++ b)) else none
  | .tup a, .tup b => if a.length + b.length ≤ big then some (.tup (a ++ b)) else none
  | .lst a, .lst b => if a.length + b.length ≤ big then some (.lst (a ++ b)) else none
  | _, _ => none
def dSub : D → D → Option D
  | .int i, .int j => some (.int (i - j))
  | _, _ => none
/-- a product that is not too long -/
def okMul (i j : Int) : Bool := decide (i.natAbs < 2 ^ 64) || decide (j.natAbs < 2 ^ 64) || decide (i.natAbs.log2 + j.natAbs.log2 < 1000000)
theorem okMul_l {i : Int} (j : Int) (h : -(2 ^ 64) < i) (h2 : i < 2 ^ 64) : okMul i j = true := by unfold okMul; rw [decide_eq_true (by omega : i.natAbs < 2 ^ 64)]; rfl
theorem okMul_r (i : Int) {j : Int} (h : -(2 ^ 64) < j) (h2 : j < 2 ^ 64) : okMul i j = true := by unfold okMul; rw [decide_eq_true (by omega : j.natAbs < 2 ^ 64)]; simp
def dMul : D → D → Option D
  | .int i, .int j => if okMul i j = true then some (.int (i * j)) else none
  | .lst a, .int k => if a.length * k.toNat ≤ big ∧ k.natAbs < 2 ^ 63 then some (.lst (List.replicate k.toNat a).flatten) else none
  | .tup a, .int k => if a ≠ [] ∧ 2 ≤ k ∧ k ≤ 1000 ∧ a.length ≤ 1000 then some (.tup (List.replicate k.toNat a).flatten) else none
  | _, _ => none
def dDiv : D → D → Option D
  | .int i, .int j => if 0 < j ∧ j.natAbs.log2 < 9000 then some (.int (i / j)) else none
  | _, _ => none
def dMod : D → D → Option D
  | .int i, .int j => if 0 < j then some (.int (i % j)) else none
  | _, _ => none
def dPow : D → D → Option D
  | .int i, .int j => if 0 ≤ j ∧ (Builtin.Int.intBits i : Int) * j ≤ 2 ^ 27 then some (.int (i ^ j.toNat)) else none
  | _, _ => none
def dLt : D → D → Option D
  | .int i, .int j => some (.bl (decide (i < j)))
  | .str i, .str j => some (.bl (decide (i.cps.toList < j.cps.toList)))
  | _, _ => none
def dLe : D → D → Option D
  | .int i, .int j => some (.bl (decide (i ≤ j)))
  | .str i, .str j => some (.bl (!decide (j.cps.toList < i.cps.toList)))
  | _, _ => none
def dGt : D → D → Option D
  | .int i, .int j => some (.bl (decide (j < i)))
  | _, _ => none
def dGe : D → D → Option D
  | .int i, .int j => some (.bl (decide (j ≤ i)))
  | _, _ => none
def dEq (x y : D) : Option D := if pl 16 x = true ∧ pl 16 y = true then some (.bl (PyData.eqv (pd x) (pd y))) else none
def dNe (x y : D) : Option D := if pl 16 x = true ∧ pl 16 y = true then some (.bl (!PyData.eqv (pd x) (pd y))) else none
def isNon : D → Bool
  | .non => true
  | _ => false
def dIs (neg : Bool) : D → D → Option D
  | .bl a, .bl b => some (.bl (xor neg (decide (a = b))))
  | .ty a, .ty b => some (.bl (xor neg (decide (a = b))))
  | x, .non => some (.bl (xor neg (isNon x)))
  | _, _ => none
section
variable {X : Cx} {g : Gm}
/-- what a rule for two ints serves -/
theorem opx_int {fn : Value → Value → Sem Value} {C : Int → Int → Prop} {h : Int → Int → V} (ho : OpR X fn (rI C h)) {F : D → D → Option D}
    (k : ∀ d e r, F d e = some r → ∃ i j, d = .int i ∧ e = .int j ∧ C i j ∧ ∀ G, Rp g G (h i j) r) : OpX X g fn F := by
  intro pins s σ H x y v u Q I rx ry ⟨G, d, e, r, sg, rd, re, hF, q⟩
  obtain ⟨i, j, rfl, rfl, c, rp⟩ := k d e r hF
  cases rd
  cases re
  exact ho pins s σ H _ _ v u Q I rx ry ⟨i, j, rfl, rfl, c, q _ G H (Ext.rfl sg) (rp G)⟩
theorem opx_int0 {fn : Value → Value → Sem Value} {h : Int → Int → V} (ho : OpR X fn (rI0 h)) {F : D → D → Option D}
    (k : ∀ d e r, F d e = some r → ∃ i j, d = .int i ∧ e = .int j ∧ ∀ G, Rp g G (h i j) r) : OpX X g fn F := by
  intro pins s σ H x y v u Q I rx ry ⟨G, d, e, r, sg, rd, re, hF, q⟩
  obtain ⟨i, j, rfl, rfl, rp⟩ := k d e r hF
  cases rd
  cases re
  exact ho pins s σ H _ _ v u Q I rx ry ⟨i, j, rfl, rfl, q _ G H (Ext.rfl sg) (rp G)⟩
theorem ox_sub : OpX X g (binaryOp .Sub) dSub := opx_int0 op_sub fun d e r h => by
  unfold dSub at h; split at h <;> cases h; exact ⟨_, _, rfl, rfl, fun _ => .int _⟩
theorem ox_div : OpX X g (binaryOp .FloorDiv) dDiv := opx_int op_fdivW fun d e r h => by
  unfold dDiv at h; split at h
  · split at h <;> cases h; exact ⟨_, _, rfl, rfl, by assumption, fun _ => .int _⟩
  · cases h
theorem ox_mod : OpX X g (binaryOp .Mod) dMod := opx_int op_mod fun d e r h => by
  unfold dMod at h; split at h
  · split at h <;> cases h; exact ⟨_, _, rfl, rfl, by assumption, fun _ => .int _⟩
  · cases h
theorem ox_pow : OpX X g (binaryOp .Pow) dPow := opx_int op_powW fun d e r h => by
  unfold dPow at h; split at h
  · split at h <;> cases h; exact ⟨_, _, rfl, rfl, by assumption, fun _ => .int _⟩
  · cases h
theorem ox_gt : OpX X g (compareOp .Gt) dGt := opx_int0 op_gt fun d e r h => by
  unfold dGt at h; split at h <;> cases h; exact ⟨_, _, rfl, rfl, fun _ => .bl _⟩
theorem ox_ge : OpX X g (compareOp .GtE) dGe := opx_int0 op_ge fun d e r h => by
  unfold dGe at h; split at h <;> cases h; exact ⟨_, _, rfl, rfl, fun _ => .bl _⟩
theorem ox_lt : OpX X g (compareOp .Lt) dLt := by
  intro pins s σ H x y v u Q I rx ry ⟨G, d, e, r, sg, rd, re, hF, q⟩
  unfold dLt at hF
  split at hF <;> cases hF
  · cases rd; cases re
    exact op_lt pins s σ H _ _ v u Q I rx ry ⟨_, _, rfl, rfl, q _ G H (Ext.rfl sg) (.bl _)⟩
  · cases rd; cases re
    exact op_lt_str pins s σ H _ _ v u Q I rx ry ⟨_, _, rfl, rfl, q _ G H (Ext.rfl sg) (.bl _)⟩
theorem ox_le : OpX X g (compareOp .LtE) dLe := by
  intro pins s σ H x y v u Q I rx ry ⟨G, d, e, r, sg, rd, re, hF, q⟩
  unfold dLe at hF
  split at hF <;> cases hF
  · cases rd; cases re
    exact op_le pins s σ H _ _ v u Q I rx ry ⟨_, _, rfl, rfl, q _ G H (Ext.rfl sg) (.bl _)⟩
  · cases rd; cases re
    exact op_le_str pins s σ H _ _ v u Q I rx ry ⟨_, _, rfl, rfl, q _ G H (Ext.rfl sg) (.bl _)⟩
theorem strOk_app {a b : Str} (ha : PyData.strOk a = true) (hb : PyData.strOk b = true) : PyData.strOk (a ++ b) = true := by
  unfold PyData.strOk at *
  show (a.cps ++ b.cps).all _ = true
  rw [Array.all_append, ha, hb]
  rfl
theorem strLen_app (a b : Str) : (a ++ b).length = a.length + b.length := by
  show (a.cps ++ b.cps).size = _
  rw [Array.size_append]
  rfl
theorem ox_add (hk : X.K = g.K := by rfl) : OpX X g (binaryOp .Add) dAdd := by
  intro pins s σ H x y v u Q I rx ry ⟨G, d, e, r, sg, rd, re, hF, q⟩
  unfold dAdd at hF
  split at hF
  · cases hF
    cases rd; cases re
    exact op_add pins s σ H _ _ v u Q I rx ry ⟨_, _, rfl, rfl, q _ G H (Ext.rfl sg) (.int _)⟩
  · split at hF <;> cases hF
    rename_i hz
    cases rd with | str _ _ oa =>
    cases re with | str _ _ ob =>
    exact op_add_str pins s σ H _ _ v u Q I rx ry ⟨_, _, rfl, rfl, Nat.le_trans hz big_le, q _ G H (Ext.rfl sg) (.str _ (by rw [strLen_app]; exact hz) (strOk_app oa ob))⟩
  · split at hF <;> cases hF
    rename_i a b hz
    cases rd with | tup qa na ra =>
    cases re with | tup qb nb rb =>
    have la := ra.len
    have lb := rb.len
    refine op_catA pins s σ H _ _ v u Q I rx ry ⟨_, _, _, _, rfl, rfl, by rw [hk]; exact sqTS sg qa, by rw [hk]; exact sqTS sg qb, by rw [la, lb]; exact Nat.le_trans hz big_le, fun ea => ?_, fun _ eb => ?_, fun _ _ p hp => ?_⟩
    · subst ea
      cases ra
      exact q _ G H (Ext.rfl sg) (.tup qb (by simpa using nb) (by simpa using rb))
    · subst eb
      cases rb
      exact q _ G H (Ext.rfl sg) (.tup qa (by simpa using na) (by simpa using ra))
    · exact q _ _ _ (Ext.new sg hp) (.tup (SqT.of upd_same) (by rw [List.length_append]; exact hz) ((ra.app rb).up (Ext.new sg hp).g))
  · split at hF <;> cases hF
    rename_i a b hz
    cases rd with | lst qa na ra =>
    cases re with | lst qb nb rb =>
    have la := ra.len
    have lb := rb.len
    refine op_cat pins s σ H _ _ v u Q I rx ry ⟨_, _, _, _, rfl, rfl, sg _ _ qa, sg _ _ qb, by rw [la, lb]; exact Nat.le_trans hz big_le, fun p hp => ?_⟩
    exact q _ _ _ (Ext.new sg hp) (.lst upd_same (by rw [List.length_append]; exact hz) ((ra.app rb).up (Ext.new sg hp).g))
  · cases hF
theorem rpl_rep {G : Hp} {vs : List V} {ds : List D} (r : RpL g G vs ds) : ∀ n : Nat, RpL g G (List.replicate n vs).flatten (List.replicate n ds).flatten
  | 0 => .nil
  | n + 1 => by rw [List.replicate_succ, List.replicate_succ, List.flatten_cons, List.flatten_cons]; exact r.app (rpl_rep r n)
theorem len_rep {α : Type} (xs : List α) (n : Nat) : (List.replicate n xs).flatten.length = xs.length * n := by
  rw [List.length_flatten]; simp [Nat.mul_comm]
theorem ox_mul (hk : X.K = g.K := by rfl) : OpX X g (binaryOp .Mult) dMul := by
  intro pins s σ H x y v u Q I rx ry ⟨G, d, e, r, sg, rd, re, hF, q⟩
  unfold dMul at hF
  split at hF
  · split at hF <;> cases hF
    cases rd; cases re
    rename_i hz
    unfold okMul at hz
    rw [Bool.or_eq_true] at hz
    rcases hz with hz | hz
    · exact op_mul pins s σ H _ _ v u Q I rx ry ⟨_, _, rfl, rfl, by rw [Bool.or_eq_true, decide_eq_true_eq, decide_eq_true_eq] at hz; exact hz.elim (fun h => .inl (by omega)) (fun h => .inr (by omega)), q _ G H (Ext.rfl sg) (.int _)⟩
    · exact op_mulW pins s σ H _ _ v u Q I rx ry ⟨_, _, rfl, rfl, (by rw [decide_eq_true_eq] at hz; exact hz : CMulW _ _), q _ G H (Ext.rfl sg) (.int _)⟩
  · split at hF <;> cases hF
    rename_i a k hz
    cases rd with | lst qa na ra =>
    cases re
    have la := ra.len
    refine op_rep pins s σ H _ _ v u Q I rx ry ⟨_, _, _, rfl, rfl, sg _ _ qa, (by have := hz.2; omega), (by have := hz.2; omega), by rw [la]; exact Nat.le_trans hz.1 big_le, fun p hp => ?_⟩
    exact q _ _ _ (Ext.new sg hp) (.lst upd_same (by rw [len_rep]; exact hz.1) ((rpl_rep ra _).up (Ext.new sg hp).g))
  · split at hF <;> cases hF
    rename_i a k hz
    cases rd with | tup qa na ra =>
    cases re
    have la := ra.len
    obtain ⟨h1, h2, h3, h4⟩ := hz
    have ne : ∀ vs : List V, vs.length = a.length → vs ≠ [] := fun vs e z => h1 (List.eq_nil_of_length_eq_zero (by rw [← e, z]; rfl))
    refine op_repT pins s σ H _ _ v u Q I rx ry ⟨_, _, _, rfl, rfl, by rw [hk]; exact sqTS sg qa, ne _ la, h2, h3, by rw [la]; exact h4, fun p hp => ?_⟩
    have hl : a.length * k.toNat ≤ big := Nat.le_trans (Nat.mul_le_mul h4 (show k.toNat ≤ 1000 by omega)) (by decide)
    exact q _ _ _ (Ext.new sg hp) (.tup (SqT.of upd_same) (by rw [len_rep]; exact hl) ((rpl_rep ra _).up (Ext.new sg hp).g))
  · cases hF
theorem ox_eq (hu : X.A.units + 64 < cLine) (hk : X.K = g.K := by rfl) : OpX X g (compareOp .Eq) dEq := by
  intro pins s σ H x y v u Q I rx ry ⟨G, d, e, r, sg, rd, re, hF, q⟩
  unfold dEq at hF
  split at hF <;> cases hF
  rename_i hz
  obtain ⟨a, b⟩ := shaped_of sg hz.1 rd
  obtain ⟨a2, b2⟩ := shaped_of sg hz.2 re
  exact op_eqD hu pins s σ H _ _ v u Q I rx ry ⟨_, _, by rw [hk]; exact a, by rw [hk]; exact a2, b, b2, q _ G H (Ext.rfl sg) (.bl _)⟩
theorem ox_ne (hu : X.A.units + 64 < cLine) (hk : X.K = g.K := by rfl) : OpX X g (compareOp .NotEq) dNe := by
  intro pins s σ H x y v u Q I rx ry ⟨G, d, e, r, sg, rd, re, hF, q⟩
  unfold dNe at hF
  split at hF <;> cases hF
  rename_i hz
  obtain ⟨a, b⟩ := shaped_of sg hz.1 rd
  obtain ⟨a2, b2⟩ := shaped_of sg hz.2 re
  exact op_neD hu pins s σ H _ _ v u Q I rx ry ⟨_, _, by rw [hk]; exact a, by rw [hk]; exact a2, b, b2, q _ G H (Ext.rfl sg) (.bl _)⟩
theorem isNon_of {G : Hp} {v : V} {d : D} (r : Rp g G v d) : decide (v = .non) = isNon d := by cases r <;> rfl
theorem ox_is : OpX X g (compareOp .Is) (dIs false) := by
  intro pins s σ H x y v u Q I rx ry ⟨G, d, e, r, sg, rd, re, hF, q⟩
  unfold dIs at hF
  split at hF <;> cases hF
  · cases rd; cases re
    exact op_isBl pins s σ H _ _ v u Q I rx ry ⟨_, _, rfl, rfl, q _ G H (Ext.rfl sg) (by rw [Bool.false_xor]; exact .bl _)⟩
  · cases rd; cases re
    exact op_isTyB pins s σ H _ _ v u Q I rx ry ⟨_, _, rfl, rfl, q _ G H (Ext.rfl sg) (by rw [Bool.false_xor]; exact .bl _)⟩
  · cases re
    exact op_isN pins s σ H _ _ v u Q I rx ry ⟨rfl, q _ G H (Ext.rfl sg) (by rw [Bool.false_xor, isNon_of rd]; exact .bl _)⟩
theorem ox_isn : OpX X g (compareOp .IsNot) (dIs true) := by
  intro pins s σ H x y v u Q I rx ry ⟨G, d, e, r, sg, rd, re, hF, q⟩
  unfold dIs at hF
  split at hF <;> cases hF
  · cases rd; cases re
    exact op_notBl pins s σ H _ _ v u Q I rx ry ⟨_, _, rfl, rfl, q _ G H (Ext.rfl sg) (by rw [Bool.true_xor]; exact .bl _)⟩
  · cases rd; cases re
    exact op_notTyB pins s σ H _ _ v u Q I rx ry ⟨_, _, rfl, rfl, q _ G H (Ext.rfl sg) (by rw [Bool.true_xor]; exact .bl _)⟩
  · cases re
    exact op_notN pins s σ H _ _ v u Q I rx ry ⟨rfl, q _ G H (Ext.rfl sg) (by rw [Bool.true_xor, isNon_of rd]; exact .bl _)⟩
end
end Dx

set_option Elab.async false
set_option linter.all false
set_option maxRecDepth 100000
set_option maxHeartbeats 4000000
/-! the data layer: the built-ins, subscripts, slices -/
namespace Dx
open PySem PySem.Spec PyProof.Rows L2 Gd

def rXA (g : Gm) (F : List D → Option D) : List V → Hp → VK → Prop := fun vs H Q => ∃ G ds r, Same G H ∧ RpL g G vs ds ∧ F ds = some r ∧ ∀ v G' H', Ext G H G' H' → Rp g G' v r → Q v H'
abbrev CaX (X : Cx) (g : Gm) (fn : Value) (F : List D → Option D) : Prop := CallR X fn (rXA g F)
@[simp] def eBi (F : List D → Option D) (a : AV) : EV := fun ρ => (a ρ).bind fun ds ρ1 => Re.opt ρ1 (F ds)
section
variable {X : Cx} {f : Fm} {W : WX} {x : Str} {id T : String} {e : Expr} {es : List Expr} {av : AV} {F : List D → Option D} {p pos : Pos}
theorem args {σ : L2.St} {H : Hp} {Q : VK} (h : tX f W (eBi F av) σ H Q) : tCB (rXA f.g F) (tXA f W av) σ H Q := by
  obtain ⟨G, ρ, fi, q⟩ := h
  refine ⟨G, ρ, fi, q.bind fun ds ρ1 G1 H1 s1 fi1 q1 vs rvs => ?_⟩
  cases hF : F ds with
  | none => rw [hF] at q1; exact q1.elim
  | some r =>
    rw [hF] at q1
    exact ⟨G1, ds, r, fi1.gh, rvs, hF, fun w G' H' x rw' => q1 G' H' x.g (fi1.ext x) w rw'⟩
theorem px_bi (hc : CaX X f.g (.builtin id) F) (ha : PXA X f W (e :: es) av) (hm : X.mg x = none) (hg : Gl X x := by rfl) (hv : bootBuiltins x = some (.builtin id) := by decide +kernel) (hn : x ≠ "__name__" := by decide) (hdb : (x == ("__debug__" : Str)) = false := by decide)
    (he : starEach (e :: es) X.env = (false, eval e X.env) :: starEach es X.env := by rfl) (hpl : (backTo pos (starEach es X.env)).any (·.1) = false := by rfl) : PX X f W (.Call (.Name x p) (e :: es) [] pos) (eBi F av) :=
  PE.imp (pe_callB hc hg hm hv ha hn hdb he hpl) fun _ _ _ h => args h
theorem px_bt (hc : CaX X f.g (.type T) F) (ha : PXA X f W (e :: es) av) (hm : X.mg x = none) (hg : Gl X x := by rfl) (hv : bootBuiltins x = some (.type T) := by decide +kernel) (hn : x ≠ "__name__" := by decide) (hdb : (x == ("__debug__" : Str)) = false := by decide)
    (he : starEach (e :: es) X.env = (false, eval e X.env) :: starEach es X.env := by rfl) (hpl : (backTo pos (starEach es X.env)).any (·.1) = false := by rfl) : PX X f W (.Call (.Name x p) (e :: es) [] pos) (eBi F av) :=
  PE.imp (pe_callTy hc hg hm hv ha hn hdb he hpl) fun _ _ _ h => args h
end

/-! ### the built-ins -/
def dLen : D → Option Nat
  | .str x => some x.length
  | .tup xs => some xs.length
  | .lst xs => some xs.length
  | .scr ns => some ns.length
  | _ => none
def fLen : List D → Option D
  | [d] => (dLen d).map fun (n : Nat) => D.int (n : Int)
  | _ => none
def fAbs : List D → Option D
  | [.int i] => some (.int (if i < 0 then -i else i))
  | _ => none
def fInt : List D → Option D
  | [.int i] => some (.int i)
  | [.bl b] => some (.int (if b then 1 else 0))
  | _ => none
def fBool : List D → Option D
  | [.int i] => some (.bl (i != 0))
  | [.bl b] => some (.bl b)
  | _ => none
def unI : List D → Option (List Int)
  | [] => some []
  | .int i :: r => (unI r).map fun l => i :: l
  | _ => none
def unB : List D → Option (List Bool)
  | [] => some []
  | .bl i :: r => (unB r).map fun l => i :: l
  | _ => none
def maxL : List Int → Int
  | [] => 0
  | [x] => x
  | x :: r => max x (maxL r)
def minL : List Int → Int
  | [] => 0
  | [x] => x
  | x :: r => min x (minL r)
def fMax : List D → Option D
  | [.int i, .int j] => some (.int (if j > i then j else i))
  | [.lst xs] => (unI xs).bind fun ns => if ns = [] then none else some (.int (maxL ns))
  | _ => none
def fMin : List D → Option D
  | [.int i, .int j] => some (.int (if j < i then j else i))
  | [.lst xs] => (unI xs).bind fun ns => if ns = [] then none else some (.int (minL ns))
  | _ => none
def fSum : List D → Option D
  | [.lst xs] => (unI xs).map fun ns => .int ns.sum
  | _ => none
def fAll : List D → Option D
  | [.lst xs] => (unB xs).map fun bs => .bl (bs.all id)
  | _ => none
def fAny : List D → Option D
  | [.lst xs] => (unB xs).map fun bs => .bl (bs.any id)
  | _ => none
def fList : List D → Option D
  | [.lst xs] => some (.lst xs)
  | [.tup xs] => some (.lst xs)
  | _ => none
def fTuple : List D → Option D
  | [.lst xs] => some (.tup xs)
  | [.tup xs] => some (.tup xs)
  | _ => none
/-- the built-in class of data -/
def tyD : D → Option String
  | .non => some "NoneType"
  | .bl _ => some "bool"
  | .int _ => some "int"
  | .str _ => some "str"
  | .tup _ => some "tuple"
  | .lst _ => some "list"
  | .dic _ => some "dict"
  | _ => none
def isB (t n : String) : Bool := t == n || (t == "bool" && n == "int")
def fIsi : List D → Option D
  | [d, .ty n] => (tyD d).bind fun t => if n ∈ ["int", "str", "bool", "tuple", "list", "dict"] then some (.bl (isB t n)) else none
  | _ => none
section
variable {X : Cx} {g : Gm}
theorem rpl1 {G : Hp} {vs : List V} {d : D} (h : RpL g G vs [d]) : ∃ v, vs = [v] ∧ Rp g G v d := by
  cases h with
  | cons a b => cases b; exact ⟨_, rfl, a⟩
theorem rpl2 {G : Hp} {vs : List V} {d e : D} (h : RpL g G vs [d, e]) : ∃ v w, vs = [v, w] ∧ Rp g G v d ∧ Rp g G w e := by
  cases h with
  | cons a b =>
    obtain ⟨w, rfl, r⟩ := rpl1 b
    exact ⟨_, _, rfl, a, r⟩
theorem rpl_ints {G : Hp} : ∀ {vs : List V} {ds : List D} {ns : List Int}, RpL g G vs ds → unI ds = some ns → vs = ns.map V.int
  | _, _, ns, .nil, h => by unfold unI at h; cases h; rfl
  | _, _, ns, .cons (d := d) (ds := r) a b, h => by
    cases d <;> simp only [unI, Option.map_eq_some_iff, reduceCtorEq] at h
    obtain ⟨l, hl, rfl⟩ := h
    cases a
    rw [rpl_ints b hl]; rfl
theorem rpl_bls {G : Hp} : ∀ {vs : List V} {ds : List D} {ns : List Bool}, RpL g G vs ds → unB ds = some ns → vs = ns.map V.bl
  | _, _, ns, .nil, h => by unfold unB at h; cases h; rfl
  | _, _, ns, .cons (d := d) (ds := r) a b, h => by
    cases d <;> simp only [unB, Option.map_eq_some_iff, reduceCtorEq] at h
    obtain ⟨l, hl, rfl⟩ := h
    cases a
    rw [rpl_bls b hl]; rfl
theorem maxL_ge : ∀ (l : List Int), ∀ y ∈ l, y ≤ maxL l
  | [], _, h => by cases h
  | [x], y, h => by simp at h; subst h; exact Int.le_refl _
  | x :: z :: r, y, h => by
    have ih := maxL_ge (z :: r)
    show y ≤ max x (maxL (z :: r))
    rcases List.mem_cons.mp h with rfl | h
    · omega
    · have := ih y h; omega
theorem maxL_mem : ∀ (l : List Int), l ≠ [] → maxL l ∈ l
  | [], h => absurd rfl h
  | [x], _ => by simp [maxL]
  | x :: z :: r, _ => by
    have ih := maxL_mem (z :: r) (by simp)
    show max x (maxL (z :: r)) ∈ _
    by_cases c : x ≤ maxL (z :: r)
    · rw [Int.max_eq_right c]; exact List.mem_cons_of_mem _ ih
    · rw [Int.max_eq_left (by omega)]; exact List.mem_cons_self
theorem minL_le : ∀ (l : List Int), ∀ y ∈ l, minL l ≤ y
  | [], _, h => by cases h
  | [x], y, h => by simp at h; subst h; exact Int.le_refl _
  | x :: z :: r, y, h => by
    have ih := minL_le (z :: r)
    show min x (minL (z :: r)) ≤ y
    rcases List.mem_cons.mp h with rfl | h
    · omega
    · have := ih y h; omega
theorem minL_mem : ∀ (l : List Int), l ≠ [] → minL l ∈ l
  | [], h => absurd rfl h
  | [x], _ => by simp [minL]
  | x :: z :: r, _ => by
    have ih := minL_mem (z :: r) (by simp)
    show min x (minL (z :: r)) ∈ _
    by_cases c : x ≤ minL (z :: r)
    · rw [Int.min_eq_left c]; exact List.mem_cons_self
    · rw [Int.min_eq_right (by omega)]; exact List.mem_cons_of_mem _ ih
theorem cx_len (hk : X.K = g.K := by rfl) : CaX X g (.builtin "len") fLen := by
  intro pins s σ H vs us Q I rv ⟨G, ds, r, sg, rd, hF, q⟩
  unfold fLen at hF
  split at hF
  · rename_i d
    obtain ⟨v, rfl, rp⟩ := rpl1 rd
    obtain ⟨n, hn, rfl⟩ := Option.map_eq_some_iff.mp hF
    have fin := q (.int n) G H (Ext.rfl sg) (.int _)
    refine call_len pins s σ H _ us Q I rv ⟨v, n, rfl, ?_, fin⟩
    cases rp <;> simp only [dLen, Option.some.injEq, reduceCtorEq] at hn <;> subst hn
    case str x hx _ => exact ⟨Nat.le_trans hx big_le, rfl⟩
    case tup qa na ra => exact .inr ⟨_, by rw [hk]; exact sqTS sg qa, ra.len.symm⟩
    case lst qa na ra => exact .inl ⟨_, SqL.of (sg _ _ qa), ra.len.symm⟩
    case scr qa => exact .inl ⟨_, by rw [hk]; exact sqLS sg qa, by rw [List.length_map]⟩
  · cases hF
theorem cx_abs : CaX X g (.builtin "abs") fAbs := by
  intro pins s σ H vs us Q I rv ⟨G, ds, r, sg, rd, hF, q⟩
  unfold fAbs at hF
  split at hF <;> cases hF
  obtain ⟨v, rfl, rp⟩ := rpl1 rd
  cases rp
  exact call_abs pins s σ H _ us Q I rv ⟨_, rfl, q _ G H (Ext.rfl sg) (.int _)⟩
theorem cx_int : CaX X g (.type "int") fInt := by
  intro pins s σ H vs us Q I rv ⟨G, ds, r, sg, rd, hF, q⟩
  unfold fInt at hF
  split at hF <;> cases hF <;> obtain ⟨v, rfl, rp⟩ := rpl1 rd <;> cases rp
  · exact call_int1 pins s σ H _ us Q I rv (.inl ⟨_, rfl, q _ G H (Ext.rfl sg) (.int _)⟩)
  · exact call_int1 pins s σ H _ us Q I rv (.inr ⟨_, rfl, q _ G H (Ext.rfl sg) (.int _)⟩)
theorem cx_bool : CaX X g (.type "bool") fBool := by
  intro pins s σ H vs us Q I rv ⟨G, ds, r, sg, rd, hF, q⟩
  unfold fBool at hF
  split at hF <;> cases hF <;> obtain ⟨v, rfl, rp⟩ := rpl1 rd <;> cases rp
  · exact call_bool1 pins s σ H _ us Q I rv (.inl ⟨_, rfl, q _ G H (Ext.rfl sg) (.bl _)⟩)
  · exact call_bool1 pins s σ H _ us Q I rv (.inr ⟨_, rfl, q _ G H (Ext.rfl sg) (.bl _)⟩)
theorem cx_max (hc : X.calm = true) : CaX X g (.builtin "max") fMax := by
  intro pins s σ H vs us Q I rv ⟨G, ds, r, sg, rd, hF, q⟩
  unfold fMax at hF
  split at hF
  · cases hF
    obtain ⟨v, w, rfl, rp, rp2⟩ := rpl2 rd
    cases rp; cases rp2
    exact call_max2 hc pins s σ H _ us Q I rv ⟨_, _, rfl, q _ G H (Ext.rfl sg) (.int _)⟩
  · obtain ⟨ns, h1, h2⟩ := Option.bind_eq_some_iff.mp hF
    split at h2 <;> cases h2
    rename_i hne
    obtain ⟨v, rfl, rp⟩ := rpl1 rd
    cases rp with | lst qa na ra =>
    have e := rpl_ints ra h1
    subst e
    refine cr_max hc pins s σ H _ us Q I rv ⟨_, ns, rfl, SqL.of (sg _ _ qa), List.length_pos_iff.mpr hne, fun m hm hle => ?_⟩
    have : m = maxL ns := Int.le_antisymm (maxL_ge ns m hm) (hle _ (maxL_mem ns hne))
    subst this
    exact q _ G H (Ext.rfl sg) (.int _)
  · cases hF
theorem cx_min (hc : X.calm = true) : CaX X g (.builtin "min") fMin := by
  intro pins s σ H vs us Q I rv ⟨G, ds, r, sg, rd, hF, q⟩
  unfold fMin at hF
  split at hF
  · cases hF
    obtain ⟨v, w, rfl, rp, rp2⟩ := rpl2 rd
    cases rp; cases rp2
    exact call_min2 hc pins s σ H _ us Q I rv ⟨_, _, rfl, q _ G H (Ext.rfl sg) (.int _)⟩
  · obtain ⟨ns, h1, h2⟩ := Option.bind_eq_some_iff.mp hF
    split at h2 <;> cases h2
    rename_i hne
    obtain ⟨v, rfl, rp⟩ := rpl1 rd
    cases rp with | lst qa na ra =>
    have e := rpl_ints ra h1
    subst e
    refine cr_min hc pins s σ H _ us Q I rv ⟨_, ns, rfl, SqL.of (sg _ _ qa), List.length_pos_iff.mpr hne, fun m hm hle => ?_⟩
    have : m = minL ns := Int.le_antisymm (hle _ (minL_mem ns hne)) (minL_le ns m hm)
    subst this
    exact q _ G H (Ext.rfl sg) (.int _)
  · cases hF
theorem cx_sum (hc : X.calm = true) : CaX X g (.builtin "sum") fSum := by
  intro pins s σ H vs us Q I rv ⟨G, ds, r, sg, rd, hF, q⟩
  unfold fSum at hF
  split at hF
  · obtain ⟨ns, h1, rfl⟩ := Option.map_eq_some_iff.mp hF
    obtain ⟨v, rfl, rp⟩ := rpl1 rd
    cases rp with | lst qa na ra =>
    have e := rpl_ints ra h1
    subst e
    exact cr_sum hc pins s σ H _ us Q I rv ⟨_, ns, rfl, SqL.of (sg _ _ qa), q _ G H (Ext.rfl sg) (.int _)⟩
  · cases hF
theorem cx_all (hc : X.calm = true) : CaX X g (.builtin "all") fAll := by
  intro pins s σ H vs us Q I rv ⟨G, ds, r, sg, rd, hF, q⟩
  unfold fAll at hF
  split at hF
  · obtain ⟨ns, h1, rfl⟩ := Option.map_eq_some_iff.mp hF
    obtain ⟨v, rfl, rp⟩ := rpl1 rd
    cases rp with | lst qa na ra =>
    have e := rpl_bls ra h1
    subst e
    exact cr_all hc pins s σ H _ us Q I rv ⟨_, ns, rfl, SqL.of (sg _ _ qa), q _ G H (Ext.rfl sg) (.bl _)⟩
  · cases hF
theorem cx_any (hc : X.calm = true) : CaX X g (.builtin "any") fAny := by
  intro pins s σ H vs us Q I rv ⟨G, ds, r, sg, rd, hF, q⟩
  unfold fAny at hF
  split at hF
  · obtain ⟨ns, h1, rfl⟩ := Option.map_eq_some_iff.mp hF
    obtain ⟨v, rfl, rp⟩ := rpl1 rd
    cases rp with | lst qa na ra =>
    have e := rpl_bls ra h1
    subst e
    exact cr_any hc pins s σ H _ us Q I rv ⟨_, ns, rfl, SqL.of (sg _ _ qa), q _ G H (Ext.rfl sg) (.bl _)⟩
  · cases hF
theorem cx_list (hk : X.K = g.K := by rfl) : CaX X g (.type "list") fList := by
  intro pins s σ H vs us Q I rv ⟨G, ds, r, sg, rd, hF, q⟩
  unfold fList at hF
  split at hF <;> cases hF <;> obtain ⟨v, rfl, rp⟩ := rpl1 rd
  · cases rp with | lst qa na ra =>
    exact call_list_of pins s σ H _ us Q I rv ⟨_, _, rfl, .inl (SqL.of (sg _ _ qa)), fun p hp => q _ _ _ (Ext.new sg hp) (.lst upd_same na (ra.up (Ext.new sg hp).g))⟩
  · cases rp with | tup qa na ra =>
    exact call_list_of pins s σ H _ us Q I rv ⟨_, _, rfl, .inr (by rw [hk]; exact sqTS sg qa), fun p hp => q _ _ _ (Ext.new sg hp) (.lst upd_same na (ra.up (Ext.new sg hp).g))⟩
theorem cx_tuple (hk : X.K = g.K := by rfl) : CaX X g (.type "tuple") fTuple := by
  intro pins s σ H vs us Q I rv ⟨G, ds, r, sg, rd, hF, q⟩
  unfold fTuple at hF
  split at hF <;> cases hF <;> obtain ⟨v, rfl, rp⟩ := rpl1 rd
  · cases rp with | lst qa na ra =>
    exact call_tuple_of pins s σ H _ us Q I rv ⟨_, _, rfl, .inl ⟨SqL.of (sg _ _ qa), fun p hp => q _ _ _ (Ext.new sg hp) (.tup (SqT.of upd_same) na (ra.up (Ext.new sg hp).g))⟩⟩
  · cases rp with | tup qa na ra =>
    exact call_tuple_of pins s σ H _ us Q I rv ⟨_, _, rfl, .inr ⟨by rw [hk]; exact sqTS sg qa, q _ _ _ (Ext.rfl sg) (.tup qa na ra)⟩⟩
theorem tyx_tup {K : PySem.W.Frag} {H : Hp} {t : Addr} {xs : List V} (h : SqT K H t xs) : TyX K H (.ref t) (.type "tuple") := by
  rcases h with (h | ⟨o, h⟩) | ⟨o, its, n, hk, hc, _⟩
  · exact .base (.tup h)
  · exact .fTuple h
  · exact .kTuple hk hc
theorem tyx_of {G H : Hp} {v : V} {d : D} {t : String} (s : Same G H) (r : Rp g G v d) (h : tyD d = some t) : TyX g.K H v (.type t) := by
  cases r <;> simp only [tyD, Option.some.injEq, reduceCtorEq] at h <;> subst h
  case non => exact .base .non
  case bl b => exact .base (.bl b)
  case int i => exact .base (.int i)
  case str x _ _ => exact .base (.str x)
  case tup q _ _ => exact tyx_tup (sqTS s q)
  case lst q _ _ => exact .base (.lst (s _ _ q))
  case dic q _ _ _ =>
    exact .fDict (s _ _ q)
theorem kitB_of : ∀ t ∈ ["NoneType", "bool", "int", "str", "tuple", "list", "dict"], ∀ n ∈ ["int", "str", "bool", "tuple", "list", "dict"], kitB t n = some (isB t n) := by decide +kernel
theorem tyD_mem {d : D} {t : String} (h : tyD d = some t) : t ∈ ["NoneType", "bool", "int", "str", "tuple", "list", "dict"] := by
  cases d <;> simp only [tyD, Option.some.injEq, reduceCtorEq] at h <;> subst h <;> decide
theorem cx_isi (hk : X.K = g.K := by rfl) : CaX X g (.builtin "isinstance") fIsi := by
  intro pins s σ H vs us Q I rv ⟨G, ds, r, sg, rd, hF, q⟩
  unfold fIsi at hF
  split at hF
  · rename_i d n
    obtain ⟨t, h1, h2⟩ := Option.bind_eq_some_iff.mp hF
    split at h2 <;> cases h2
    rename_i hn
    obtain ⟨v, w, rfl, rp, rp2⟩ := rpl2 rd
    cases rp2
    exact call_isi pins s σ H _ us Q I rv ⟨v, .ty n, .type t, .type n, isB t n, rfl, .ty n, by rw [hk]; exact tyx_of sg rp h1, kit_ty (kitB_of t (tyD_mem h1) n hn), q _ G H (Ext.rfl sg) (.bl _)⟩
  · cases hF
end

/-! ### subscripts -/
def lkD (ks : List (Key × D)) (k : Key) : Option D := (ks.find? fun kv => decide (kv.1 = k)).map (·.2)
def dKey : D → Option Key
  | .int i => some (.inl i)
  | .str x => some (.inr x)
  | _ => none
def dIx : D → D → Option D
  | .tup xs, .int i => atI xs i
  | .lst xs, .int i => atI xs i
  | .scr ns, .int i => (atI ns i).map D.int
  | .str z, .int i => (atI z.cps.toList i).map fun c => .str ⟨#[c]⟩
  | .dic ks, k => (dKey k).bind fun k => lkD ks k
  | _, _ => none
section
variable {X : Cx} {g : Gm}
theorem atI_rp {G : Hp} {vs : List V} {ds : List D} {i : Int} {d : D} (r : RpL g G vs ds) (h : atI ds i = some d) : ∃ v, atI vs i = some v ∧ Rp g G v d := by
  unfold atI at *
  rw [r.len]
  obtain ⟨j, h1, h2⟩ := Option.bind_eq_some_iff.mp h
  obtain ⟨v, h3, h4⟩ := r.getD h2
  exact ⟨v, by rw [h1]; exact h3, h4⟩
theorem key_rp {G : Hp} {v : V} {d : D} {k : Key} (r : Rp g G v d) (h : dKey d = some k) : v = kV k := by
  cases r <;> simp only [dKey, Option.some.injEq, reduceCtorEq] at h <;> subst h <;> rfl
theorem lk_rp {G : Hp} : ∀ {kvs : List (Key × V)} {ks : List (Key × D)} {k : Key}, kvs.map (·.1) = ks.map (·.1) → RpL g G (kvs.map (·.2)) (ks.map (·.2)) →
    match lkD ks k with
    | some d => ∃ v, valV kvs k = some v ∧ Rp g G v d
    | none => valV kvs k = none
  | [], [], k, _, _ => rfl
  | [], _ :: _, _, e, _ => by simp at e
  | _ :: _, [], _, e, _ => by simp at e
  | (a, x) :: kvs, (b, d) :: ks, k, e, r => by
    simp only [List.map_cons, List.cons.injEq] at e r
    obtain ⟨rfl, e⟩ := e
    cases r with
    | cons r1 r2 =>
      have ih := lk_rp (k := k) e r2
      by_cases hk : a = k
      · have h2 : decide (a = k) = true := decide_eq_true hk
        simp only [lkD, valV, List.find?, h2, Option.map_some]
        exact ⟨x, rfl, r1⟩
      · have h2 : decide (a = k) = false := decide_eq_false hk
        simp only [lkD, valV, List.find?, h2]
        exact ih
theorem ixx (hu : X.A.units + 1 < cLine) (hk : X.K = g.K := by rfl) : IxR X (rX2 g dIx) := by
  intro value slice pins s σ H x y v u Q I rx ry ⟨G, d, e, r, sg, rd, re, hF, q⟩ hs
  have fin : ∀ {w}, Rp g G w r → Q w H := fun {w} h => q w G H (Ext.rfl sg) h
  unfold dIx at hF
  split at hF
  · cases rd with | tup qa na ra =>
    cases re
    obtain ⟨w, h1, h2⟩ := atI_rp ra hF
    exact ix_tup value slice pins s σ H _ _ v u Q I rx ry ⟨_, _, _, w, rfl, rfl, by rw [hk]; exact sqTS sg qa, h1, fin h2⟩ hs
  · cases rd with | lst qa na ra =>
    cases re
    obtain ⟨w, h1, h2⟩ := atI_rp ra hF
    exact ix_list value slice pins s σ H _ _ v u Q I rx ry ⟨_, _, _, w, rfl, rfl, SqL.of (sg _ _ qa), h1, fin h2⟩ hs
  · cases rd with | scr qa =>
    cases re
    obtain ⟨n, h1, rfl⟩ := Option.map_eq_some_iff.mp hF
    refine ix_list value slice pins s σ H _ _ v u Q I rx ry ⟨_, _, _, .int n, rfl, rfl, by rw [hk]; exact sqLS sg qa, ?_, fin (.int _)⟩ hs
    unfold atI at *
    rw [List.length_map]
    obtain ⟨j, h3, h4⟩ := Option.bind_eq_some_iff.mp h1
    rw [h3]
    show (List.map V.int _)[j]? = _
    rw [List.getElem?_map, h4]; rfl
  · cases rd with | str _ nz oz =>
    rename_i z i
    cases re
    obtain ⟨c, h1, rfl⟩ := Option.map_eq_some_iff.mp hF
    refine ix_str value slice pins s σ H _ _ v u Q I rx ry ⟨_, _, c, rfl, rfl, Nat.le_trans nz big_le, h1, fin (.str _ (show 1 ≤ big by decide) ?_)⟩ hs
    have hm : c ∈ z.cps.toList := by
      unfold atI at h1
      obtain ⟨j, _, h4⟩ := Option.bind_eq_some_iff.mp h1
      exact List.mem_of_getElem? h4
    unfold PyData.strOk at oz ⊢
    have := (Array.all_eq_true'.mp oz) c (by simpa using hm)
    simpa using this
  · rename_i ks k
    obtain ⟨kk, h1, h2⟩ := Option.bind_eq_some_iff.mp hF
    cases rd with | dic qa na ea ra =>
    have ey := key_rp re h1
    have := lk_rp (k := kk) ea ra
    rw [h2] at this
    obtain ⟨w, h3, h4⟩ := this
    subst ey
    cases (show v = Value.ref _ from rx)
    have gg : DGet H _ (kV kk) (some w) := .inl ⟨_, kk, rdS sg (.inr ⟨_, qa⟩), rfl, h3.symm⟩
    exact tail_any (dict_typeIs I gg) PySem.F.slot_dict_getitem.lookup (d_getItem hu I gg ry fun w' s3 I3 rw' => ⟨w, H, I3, rw', fin h4⟩) hs
  · cases hF
end
end Dx

set_option Elab.async false
set_option linter.all false
set_option maxRecDepth 100000
set_option maxHeartbeats 4000000
/-! the data layer: slices, what is walked, targets, statements -/
namespace Dx
open PySem PySem.Spec PyProof.Rows L2 Gd

/-! ### slices -/
abbrev OV := Ev → Re (Option Int)
@[simp] def oNo : OV := fun ρ => .ok none ρ
@[simp] def oSo (e : EV) : OV := fun ρ => (e ρ).bind fun d ρ1 => match d with
  | .int i => .ok (some i) ρ1
  | _ => .no
def cutG {α : Type} (xs : List α) (lo hi : Option Int) : List α := (xs.drop (HT.sIx xs.length 0 lo)).take (HT.sIx xs.length xs.length hi - HT.sIx xs.length 0 lo)
def dSl : D → Option Int → Option Int → Option D
  | .tup xs, lo, hi => some (.tup (cutG xs lo hi))
  | .lst xs, lo, hi => some (.lst (cutG xs lo hi))
  | _, _, _ => none
@[simp] def eSl (e : EV) (lo hi : OV) : EV := fun ρ => (e ρ).bind fun d ρ1 => (lo ρ1).bind fun l ρ2 => (hi ρ2).bind fun h ρ3 => Re.opt ρ3 (dSl d l h)
section
variable {X : Cx} {f : Fm} {W : WX}
def tXO (f : Fm) (W : WX) (ov : OV) : TO := fun σ H Q => ∃ G ρ, FI f G H σ ρ ∧ PostX f W σ G (fun o _ H' => Q o H') (ov ρ)
theorem pxo_no : PO X none (tXO f W oNo) := ⟨fun pins s σ H Q I ⟨G, ρ, fi, q⟩ => po_none.run pins s σ H Q I (q G H same_rfl fi)⟩
theorem pxo_so {e : Expr} {ev : EV} (h : PX X f W e ev) : PO X (some e) (tXO f W (oSo ev)) := ⟨fun pins s σ H Q I ⟨G, ρ, fi, q⟩ => (po_some h).run pins s σ H Q I ⟨G, ρ, fi, PostX.bind q fun d ρ1 G1 H1 s1 fi1 q1 v rv => by
  cases rv <;> first | exact q1.elim | skip
  exact ⟨_, rfl, q1 G1 H1 same_rfl fi1⟩⟩⟩
theorem rpl_cut {g : Gm} {G : Hp} {vs : List V} {ds : List D} (r : RpL g G vs ds) (lo hi : Option Int) : RpL g G (cutV vs lo hi) (cutG ds lo hi) := by
  unfold cutV cutG
  rw [r.len]
  exact (r.drop _).take _
theorem cutG_len {α : Type} (xs : List α) (lo hi : Option Int) : (cutG xs lo hi).length ≤ xs.length := by
  unfold cutG
  rw [List.length_take, List.length_drop]
  omega
theorem cutG_all {α : Type} (xs : List α) (lo hi : Option Int) (h : HT.sIx xs.length 0 lo = 0 ∧ HT.sIx xs.length xs.length hi = xs.length) : cutG xs lo hi = xs := by
  unfold cutG
  rw [h.1, h.2]
  simp
theorem px_sl {e : Expr} {ev : EV} {lo hi : Option Expr} {lv hv : OV} {p2 pos : Pos} (he : PX X f W e ev) (hl : PO X lo (tXO f W lv)) (hh : PO X hi (tXO f W hv)) (hk : X.K = f.g.K := by rfl) :
    PX X f W (.Subscript e (.Slice lo hi none p2) pos) (eSl ev lv hv) := by
  refine PE.imp (pe_slice (sl_tupA.or sl_list) he hl hh) fun σ H Q ⟨G, ρ, fi, q⟩ => ⟨G, ρ, fi, PostX.bind q fun d ρ1 G1 H1 s1 fi1 q1 v rv => ⟨G1, ρ1, fi1, PostX.bind q1 fun l ρ2 G2 H2 s2 fi2 q2 => ⟨G2, ρ2, fi2, PostX.bind q2 fun h ρ3 G3 H3 s3 fi3 q3 => ?_⟩⟩⟩
  have rv3 := (rv.up s2).up s3
  cases rv3 with
  | tup qa na ra =>
    refine .inl ⟨_, _, rfl, by rw [hk]; exact sqTS fi3.gh qa, fun w => ?_, fun w p hp => ?_⟩
    · rw [ra.len] at w
      exact q3 G3 H3 same_rfl fi3 _ (by rw [cutG_all _ _ _ w]; exact .tup qa na ra)
    · exact q3 _ _ (Ext.new fi3.gh hp).g (fi3.ext (Ext.new fi3.gh hp)) _ (.tup (SqT.of upd_same) (Nat.le_trans (cutG_len _ _ _) na) ((rpl_cut ra l h).up (Ext.new fi3.gh hp).g))
  | lst qa na ra =>
    refine .inr ⟨_, _, rfl, SqL.of (fi3.gh _ _ qa), fun p hp => ?_⟩
    exact q3 _ _ (Ext.new fi3.gh hp).g (fi3.ext (Ext.new fi3.gh hp)) _ (.lst upd_same (Nat.le_trans (cutG_len _ _ _) na) ((rpl_cut ra l h).up (Ext.new fi3.gh hp).g))
  | _ => exact q3.elim
theorem px_ix {a b : Expr} {ea eb : EV} {pos : Pos} (ha : PX X f W a ea) (hb : PX X f W b eb) (hu : X.A.units + 1 < cLine) (hs : PlainIx b := by intro _ _; rfl) (hk : X.K = f.g.K := by rfl) : PX X f W (.Subscript a b pos) (eOp dIx ea eb) :=
  PE.imp (pe_ix (ixx hu hk) ha hb hs) fun _ _ _ h => two h

/-! ### what is walked -/
/-- an iterator that gives ds, one after another -/
def IterOk (g : Gm) (G : Hp) (J : It) (ds : List D) : Prop := ∃ (Gd : Hp → Prop) (Y : Nat → Hp → V → Hp → Prop), Walk J ds.length Gd Y ∧ (∀ G2 H2, Same G G2 → Same G2 H2 → Gd H2) ∧
  ∀ i H x H', Y i H x H' → ∀ G2, Same G G2 → Same G2 H → ∃ G3 d, Ext G2 H G3 H' ∧ ds[i]? = some d ∧ Rp g G3 x d
abbrev LV := Ev → Re (List D)
def tXI (f : Fm) (W : WX) (iv : LV) : TI := fun σ H R => ∃ G ρ, FI f G H σ ρ ∧ PostX f W σ G (fun ds G' H' => ∀ J, IterOk f.g G' J ds → R J H') (iv ρ)
abbrev PXI (X : Cx) (f : Fm) (W : WX) (tg iter : Expr) (iv : LV) : Prop := PI X tg iter (tXI f W iv)
theorem PI.imp {tg e : Expr} {t t' : TI} (h : PI X tg e t) (i : ∀ σ H Q, t' σ H Q → t σ H Q) : PI X tg e t' := ⟨fun pins s σ H Q I q => h.run pins s σ H Q I (i σ H Q q)⟩
theorem PI.or3 {tg e : Expr} {t t' t'' : TI} (h : PI X tg e t) (h' : PI X tg e t') (h'' : PI X tg e t'') : PI X tg e (fun σ H R => t σ H R ∨ t' σ H R ∨ t'' σ H R) :=
  ⟨fun pins s σ H Q I q => q.elim (h.run pins s σ H Q I) fun q => q.elim (h'.run pins s σ H Q I) (h''.run pins s σ H Q I)⟩
def keyD : Key → D
  | .inl i => .int i
  | .inr x => .str x
def keyOk : Key → Bool
  | .inl _ => true
  | .inr x => decide (x.length ≤ big) && PyData.strOk x
theorem keyD_rp {g : Gm} {G : Hp} {k : Key} (h : keyOk k = true) : Rp g G (kV k) (keyD k) := by
  cases k with
  | inl i => exact .int i
  | inr x =>
    simp only [keyOk, Bool.and_eq_true, decide_eq_true_eq] at h
    exact .str x h.1 h.2
theorem PI.or4 {tg e : Expr} {t t' t'' t3 : TI} (h : PI X tg e t) (h' : PI X tg e t') (h'' : PI X tg e t'') (h3 : PI X tg e t3) : PI X tg e (fun σ H R => t σ H R ∨ t' σ H R ∨ t'' σ H R ∨ t3 σ H R) :=
  ⟨fun pins s σ H Q I q => q.elim (h.run pins s σ H Q I) fun q => q.elim (h'.run pins s σ H Q I) fun q => q.elim (h''.run pins s σ H Q I) (h3.run pins s σ H Q I)⟩
def itemsD : D → Option (List D)
  | .tup xs => some xs
  | .lst xs => some xs
  | .str z => some (z.cps.toList.map fun c => .str ⟨#[c]⟩)
  | .dic ks => if ks.all (fun p => keyOk p.1) = true then some (ks.map fun p => keyD p.1) else none
  | _ => none
@[simp] def iSeq (e : EV) : LV := fun ρ => (e ρ).bind fun d ρ1 => Re.opt ρ1 (itemsD d)
theorem iter_tup {g : Gm} {G : Hp} {a : Addr} {xs : List V} {ds : List D} (q : SqT g.K G a xs) (r : RpL g G xs ds) : IterOk g G (Itt g.K a) ds := by
  have w := walk_tup (K := g.K) (a := a) (xs := xs)
  rw [r.len] at w
  refine ⟨_, _, w, fun G2 H2 s1 s2 => sqTS s2 (sqTS s1 q), fun i H x H' y G2 s1 s2 => ?_⟩
  obtain ⟨rfl, hx⟩ := y
  obtain ⟨d, h1, h2⟩ := r.get hx
  exact ⟨G2, d, Ext.rfl s2, h1, h2.up s1⟩
theorem iter_lst {g : Gm} {G : Hp} {a : Addr} {xs : List V} {ds : List D} (q : G a = some (.lst xs)) (r : RpL g G xs ds) : IterOk g G (Itl g.K a) ds := by
  have w := walk_list (K := g.K) (a := a) (xs := xs)
  rw [r.len] at w
  refine ⟨_, _, w, fun G2 H2 s1 s2 => SqL.of (s2 _ _ (s1 _ _ q)), fun i H x H' y G2 s1 s2 => ?_⟩
  obtain ⟨rfl, hx⟩ := y
  obtain ⟨d, h1, h2⟩ := r.get hx
  exact ⟨G2, d, Ext.rfl s2, h1, h2.up s1⟩
theorem iter_str {g : Gm} {G : Hp} {z : Str} (o : PyData.strOk z = true) : IterOk g G (Its z) (z.cps.toList.map fun c => .str ⟨#[c]⟩) := by
  have w := walk_str (z := z)
  rw [show z.cps.size = (z.cps.toList.map fun c => D.str ⟨#[c]⟩).length by simp] at w
  refine ⟨_, _, w, fun _ _ _ _ => trivial, fun i H x H' y G2 s1 s2 => ?_⟩
  obtain ⟨rfl, c, hc, rfl⟩ := y
  refine ⟨G2, .str ⟨#[c]⟩, Ext.rfl s2, by simp [hc], .str _ (show 1 ≤ big by decide) ?_⟩
  have hm : c ∈ z.cps := Array.mem_of_getElem? hc
  unfold PyData.strOk at o ⊢
  have := (Array.all_eq_true'.mp o) c hm
  simpa using this
theorem keys_at : ∀ {kvs : List (Key × V)} {ks : List (Key × D)} {i : Nat} {k : Key} {v : V}, kvs.map (·.1) = ks.map (·.1) → kvs[i]? = some (k, v) → ∃ d, ks[i]? = some (k, d)
  | kvs, ks, i, k, v, h, e => by
    have h1 : (kvs.map (·.1))[i]? = some k := by rw [List.getElem?_map, e]; rfl
    rw [h, List.getElem?_map] at h1
    obtain ⟨p, hp, e2⟩ := Option.map_eq_some_iff.mp h1
    obtain ⟨k', d⟩ := p
    cases e2
    exact ⟨d, hp⟩
theorem iter_dic {g : Gm} {G : Hp} {a : Addr} {o : Obj} {kvs : List (Key × V)} {ks : List (Key × D)} (q : G a = some (.frz o (.dK kvs))) (e : kvs.map (·.1) = ks.map (·.1)) (hk : ks.all (fun p => keyOk p.1) = true) : IterOk g G (Itk a o kvs) (ks.map fun p => keyD p.1) := by
  have hl : kvs.length = (ks.map fun p => keyD p.1).length := by have := congrArg List.length e; simpa using this
  have w := walk_keys (d := a) (o := o) (kvs := kvs)
  rw [hl] at w
  refine ⟨_, _, w, fun G2 H2 s1 s2 => s2 _ _ (s1 _ _ q), fun i H x H' y G2 s1 s2 => ?_⟩
  obtain ⟨rfl, k, v, hx, rfl⟩ := y
  obtain ⟨d, hd⟩ := keys_at e hx
  exact ⟨G2, keyD k, Ext.rfl s2, by rw [List.getElem?_map, hd]; rfl, keyD_rp (List.all_eq_true.mp hk _ (List.mem_of_getElem? hd))⟩
theorem pxi_seq {tg e : Expr} {ev : EV} (h : PX X f W e ev) (hk : X.K = f.g.K := by rfl) : PXI X f W tg e (iSeq ev) :=
  PI.imp (PI.or4 (pi_tup h) (pi_list h) (pi_str h) (pi_keys h)) fun σ H R ⟨G, ρ, fi, q⟩ => by
    cases he : ev ρ with
    | ok d ρ1 =>
      have q0 : PostX f W σ G (fun ds G' H' => ∀ J, IterOk f.g G' J ds → R J H') (Re.opt ρ1 (itemsD d)) := by simpa [he] using q
      cases d with
      | tup xs =>
        refine .inl ⟨G, ρ, fi, ?_⟩
        rw [he]
        intro G1 H1 s1 fi1 v rv
        cases rv with | tup qa na ra =>
        refine ⟨_, rfl, ⟨_, by rw [hk]; exact sqTS fi1.gh qa⟩, ?_⟩
        have := q0 G1 H1 s1 fi1 (Itt f.g.K _) (iter_tup qa ra)
        rw [← hk] at this; exact this
      | lst xs =>
        refine .inr (.inl ⟨G, ρ, fi, ?_⟩)
        rw [he]
        intro G1 H1 s1 fi1 v rv
        cases rv with | lst qa na ra =>
        refine ⟨_, rfl, ⟨_, SqL.of (fi1.gh _ _ qa)⟩, ?_⟩
        have := q0 G1 H1 s1 fi1 (Itl f.g.K _) (iter_lst qa ra)
        rw [← hk] at this; exact this
      | str z =>
        refine .inr (.inr (.inl ⟨G, ρ, fi, ?_⟩))
        rw [he]
        intro G1 H1 s1 fi1 v rv
        cases rv with | str _ nz oz =>
        exact ⟨_, rfl, q0 G1 H1 s1 fi1 (Its z) (iter_str oz)⟩
      | dic ks =>
        refine .inr (.inr (.inr ⟨G, ρ, fi, ?_⟩))
        rw [he]
        intro G1 H1 s1 fi1 v rv
        cases rv with | dic qa na ea ra =>
        by_cases hks : ks.all (fun p => keyOk p.1) = true
        · rw [show itemsD (.dic ks) = some (ks.map fun p => keyD p.1) from if_pos hks] at q0
          exact ⟨_, _, rfl, .inl ⟨_, fi1.gh _ _ qa, q0 G1 H1 s1 fi1 _ (iter_dic qa ea hks)⟩⟩
        · rw [show itemsD (.dic ks) = none from if_neg hks] at q0
          exact q0.elim
      | _ => exact q0.elim
    | er e ρ1 =>
      have q0 : PostX f W σ G (fun (ds : List D) G' H' => ∀ J, IterOk f.g G' J ds → R J H') (.er e ρ1) := by simpa [he] using q
      exact .inl ⟨G, ρ, fi, by rw [he]; exact q0⟩
    | no => simp [he] at q; exact q.elim
def rngD (lo hi : Int) : List D := (List.range (hi - lo).toNat).map fun (i : Nat) => .int (lo + i)
theorem iter_rng {g : Gm} {G : Hp} {lo hi : Int} : IterOk g G (Itr lo (hi - lo).toNat) (rngD lo hi) := by
  have w := walk_range (lo := lo) (n := (hi - lo).toNat)
  rw [show (hi - lo).toNat = (rngD lo hi).length by simp [rngD]] at w
  have w : Walk (Itr lo (hi - lo).toNat) (rngD lo hi).length (fun _ => True) (YFn fun i => .int (lo + i)) := by simpa [rngD] using w
  refine ⟨_, fun i H x H' => YFn (fun i => .int (lo + i)) i H x H' ∧ i < (rngD lo hi).length, w.mono (fun _ h => h) (fun i H x H' hi h y => ⟨y, hi⟩), fun _ _ _ _ => trivial, fun i H x H' y G2 s1 s2 => ?_⟩
  obtain ⟨⟨rfl, rfl⟩, hi⟩ := y
  refine ⟨G2, .int (lo + i), Ext.rfl s2, ?_, .int _⟩
  simp only [rngD, List.length_map, List.length_range] at hi
  simp [rngD, hi]
def okR (i : Int) : Bool := decide (i.natAbs < 2 ^ 62)
theorem okR_at {i : Int} (h : okR i = true) : -(2 ^ 62) ≤ i ∧ i < 2 ^ 62 := by
  have := of_decide_eq_true h
  omega
theorem okR_of {i : Int} (h : -(2 ^ 62) < i) (h2 : i < 2 ^ 62) : okR i = true := by
  have h3 : i.natAbs < 2 ^ 62 := by omega
  unfold okR
  exact decide_eq_true h3
@[simp] def iRange1 (a : AV) : LV := fun ρ => (a ρ).bind fun ds ρ1 => match ds with
  | [.int j] => if okR j = true then .ok (rngD 0 j) ρ1 else .no
  | _ => .no
@[simp] def iRange2 (a : AV) : LV := fun ρ => (a ρ).bind fun ds ρ1 => match ds with
  | [.int i, .int j] => if okR i = true ∧ okR j = true then .ok (rngD i j) ρ1 else .no
  | _ => .no
theorem pxi_range1 {tg a : Expr} {av : AV} {p pos : Pos} (ha : PXA X f W [a] av) (hm : X.mg "range" = none) (hg : Gl X "range" := by rfl) (hs : starEach [a] X.env = [(false, eval a X.env)] := by rfl) :
    PXI X f W tg (.Call (.Name "range" p) [a] [] pos) (iRange1 av) :=
  PI.imp (pi_range1 hg hm ha hs) fun σ H R ⟨G, ρ, fi, q⟩ => ⟨G, ρ, fi, PostX.bind q fun ds ρ1 G1 H1 s1 fi1 q1 vs rvs => by
    split at q1
    · split at q1
      · rename_i j hj
        obtain ⟨v, rfl, rp⟩ := rpl1 rvs
        cases rp
        obtain ⟨h1, h2⟩ := okR_at hj
        refine ⟨j, rfl, h1, h2, ?_⟩
        have := q1 G1 H1 same_rfl fi1 _ iter_rng
        simpa using this
      · exact q1.elim
    · exact q1.elim⟩
theorem pxi_range2 {tg a b : Expr} {av : AV} {p pos : Pos} (ha : PXA X f W [a, b] av) (hm : X.mg "range" = none) (hg : Gl X "range" := by rfl) (hs : starEach [a, b] X.env = [(false, eval a X.env), (false, eval b X.env)] := by rfl) (hs2 : starEach [b] X.env = [(false, eval b X.env)] := by rfl) :
    PXI X f W tg (.Call (.Name "range" p) [a, b] [] pos) (iRange2 av) :=
  PI.imp (pi_range2 hg hm ha hs hs2) fun σ H R ⟨G, ρ, fi, q⟩ => ⟨G, ρ, fi, PostX.bind q fun ds ρ1 G1 H1 s1 fi1 q1 vs rvs => by
    split at q1
    · split at q1
      · rename_i i j hj
        obtain ⟨v, w, rfl, rp, rp2⟩ := rpl2 rvs
        cases rp
        cases rp2
        obtain ⟨h1, h2⟩ := okR_at hj.1
        obtain ⟨h3, h4⟩ := okR_at hj.2
        exact ⟨i, j, rfl, ⟨h1, h2, h3, h4⟩, q1 G1 H1 same_rfl fi1 _ iter_rng⟩
      · exact q1.elim
    · exact q1.elim⟩
/-- two lists side by side, in pairs -/
def pairD (xs ys : List D) : List D := (xs.zip ys).map fun p => .tup [p.1, p.2]
theorem iter_pair {g : Gm} {G : Hp} {J : It} {n : Nat} {Gd : Hp → Prop} {xs ys : Nat → Option V} {ds es : List D} (w : Walk J n Gd (YPair xs ys)) (hn : n = (pairD ds es).length) (gd : ∀ G2 H2, Same G G2 → Same G2 H2 → Gd H2)
    (hx : ∀ i x, xs i = some x → i < n → ∃ d, ds[i]? = some d ∧ Rp g G x d) (hy : ∀ i x, ys i = some x → i < n → ∃ d, es[i]? = some d ∧ Rp g G x d) : IterOk g G J (pairD ds es) := by
  rw [hn] at w
  refine ⟨Gd, fun i H x H' => YPair xs ys i H x H' ∧ i < (pairD ds es).length, w.mono (fun _ h => h) (fun i H x H' hi h y => ⟨y, hi⟩), gd, fun i H x H' y G2 s1 s2 => ?_⟩
  obtain ⟨⟨T, x1, x2, rfl, hT, rfl, e1, e2⟩, hi⟩ := y
  obtain ⟨d1, a1, b1⟩ := hx i x1 e1 (by rw [hn]; exact hi)
  obtain ⟨d2, a2, b2⟩ := hy i x2 e2 (by rw [hn]; exact hi)
  have x := Ext.new (o := .tup [x1, x2]) s2 hT
  refine ⟨_, .tup [d1, d2], x, ?_, .tup (SqT.of upd_same) (show 2 ≤ big by decide) (.cons ((b1.up s1).up x.g) (.cons ((b2.up s1).up x.g) .nil))⟩
  unfold pairD
  rw [List.getElem?_map, show (ds.zip es)[i]? = some (d1, d2) from List.getElem?_zip_eq_some.mpr ⟨a1, a2⟩]
  rfl
theorem pairD_len (ds es : List D) : (pairD ds es).length = min ds.length es.length := by simp [pairD]
def enumD (xs : List D) : List D := pairD ((List.range xs.length).map fun (i : Nat) => .int i) xs
@[simp] def iEnumL (a : AV) : LV := fun ρ => (a ρ).bind fun ds ρ1 => match ds with
  | [.lst xs] => .ok (enumD xs) ρ1
  | _ => .no
theorem pxi_enumL {e : Expr} {av : AV} {p pos tpos : Pos} {elts : List Expr} {kk : Nat} (ha : PXA X f W [e] av) (hm : X.mg "enumerate" = none) (hg : Gl X "enumerate" := by rfl) (hs : starEach [e] X.env = [(false, eval e X.env)] := by rfl) (hk : X.K = f.g.K := by rfl) :
    PXI X f W (.Tuple elts kk tpos) (.Call (.Name "enumerate" p) [e] [] pos) (iEnumL av) :=
  PI.imp (pi_enum hg hm ha hs) fun σ H R ⟨G, ρ, fi, q⟩ => ⟨G, ρ, fi, PostX.bind q fun ds ρ1 G1 H1 s1 fi1 q1 vs rvs => by
    split at q1
    · rename_i xs
      obtain ⟨v, rfl, rp⟩ := rpl1 rvs
      cases rp with | lst qa na ra =>
      refine ⟨_, _, rfl, SqL.of (fi1.gh _ _ qa), q1 G1 H1 same_rfl fi1 _ (iter_pair walk_enum ?_ (fun G2 H2 s1 s2 => SqL.of (s2 _ _ (s1 _ _ qa))) (fun i x e h => ?_) fun i x e h => ra.get e)⟩
      · rw [pairD_len]; simp [ra.len]
      · cases e
        rw [ra.len] at h
        exact ⟨.int i, by simp [h], .int _⟩
    · exact q1.elim⟩
end
end Dx

set_option Elab.async false
set_option linter.all false
set_option maxRecDepth 100000
set_option maxHeartbeats 4000000
/-! the data layer: targets, statements, loops -/
namespace Dx
open PySem PySem.Spec PyProof.Rows L2 Gd

/-! ### targets -/
abbrev GV := D → Ev → Re Unit
/-- ts: the slots that are written -/
def PostG (f : Fm) (ts : List Nat) (σ : L2.St) (G : Hp) (Q : L2.St → Hp → Prop) : Re Unit → Prop
  | .ok _ ρ' => ∀ σ' G' H', Same G G' → FI f G' H' σ' ρ' → (∀ j, j ∉ ts → σ'[j]? = σ[j]?) → σ'.length = σ.length → Q σ' H'
  | _ => False
def tXG (f : Fm) (ts : List Nat) (tv : GV) : TG := fun v σ H Q => ∃ G ρ d, FI f G H σ ρ ∧ Rp f.g G v d ∧ PostG f ts σ G Q (tv d ρ)
abbrev PXG (X : Cx) (f : Fm) (tg : Expr) (ts : List Nat) (tv : GV) : Prop := PG X tg (tXG f ts tv)
abbrev GVs := List D → Ev → Re Unit
def tXGs (f : Fm) (ts : List Nat) (tv : GVs) : TGs := fun vs σ H Q => ∃ G ρ ds, FI f G H σ ρ ∧ RpL f.g G vs ds ∧ PostG f ts σ G Q (tv ds ρ)
theorem PG.imp {X : Cx} {e : Expr} {t t' : TG} (h : PG X e t) (i : ∀ v σ H Q, t' v σ H Q → t v σ H Q) : PG X e t' := ⟨fun pins s σ H v u Q I r q => h.run pins s σ H v u Q I r (i v σ H Q q)⟩
theorem PGs.imp {X : Cx} {e : List Expr} {t t' : TGs} (h : PGs X e t) (i : ∀ v σ H Q, t' v σ H Q → t v σ H Q) : PGs X e t' := ⟨fun pins s σ H v u Q I r q => h.run pins s σ H v u Q I r (i v σ H Q q)⟩
theorem PostG.up {f : Fm} {ts : List Nat} {σ : L2.St} {G G1 : Hp} {Q : L2.St → Hp → Prop} {r : Re Unit} (s : Same G G1) (h : PostG f ts σ G Q r) : PostG f ts σ G1 Q r := by
  cases r with
  | ok a ρ => exact fun σ' G' H' s' => h σ' G' H' (same_trans s s')
  | er e ρ => exact h
  | no => exact h
@[simp] def tName (i : Nat) : GV := fun d ρ => match ρ[i]? with
  | some (.bor _) => .no
  | some _ => .ok () (ρ.set i (.dat d))
  | none => .no
@[simp] def tNil : GVs := fun ds ρ => match ds with
  | [] => .ok () ρ
  | _ => .no
@[simp] def tCons (t : GV) (r : GVs) : GVs := fun ds ρ => match ds with
  | d :: ds => (t d ρ).bind fun _ ρ1 => r ds ρ1
  | [] => .no
@[simp] def tTup (n : Nat) (r : GVs) : GV := fun d ρ => match d with
  | .tup xs => if xs.length = n then r xs ρ else .no
  | _ => .no
section
variable {X : Cx} {f : Fm} {W : WX} {pos : Pos}
theorem pxg_name {i : Nat} {x : Str} (hN : X.N.Nodup) (hi : X.N[i]? = some x) (hx : Loc X.env.scope x) (hf : X.fn x = true ∨ X.env.scope.names.lookup x = some .local := by first | exact .inl rfl | exact .inr rfl | assumption) : PXG X f (.Name x pos) [i] (tName i) :=
  PG.imp (pg_name hN hi hx hf) fun v σ H Q ⟨G, ρ, d, fi, r, q⟩ => by
    unfold tName at q
    split at q
    · exact q.elim
    · rename_i s hs hnb
      exact q _ G H same_rfl (fi.setDat r fun c e => by rw [e] at hnb; cases hnb; exact absurd rfl (hs c)) (fun j hj => List.getElem?_set_ne (by simpa [eq_comm] using hj)) (by simp)
    · exact q.elim
theorem pxg_nil : PGs X [] (tXGs f [] tNil) := PGs.imp pgs_nil fun vs σ H Q ⟨G, ρ, ds, fi, r, q⟩ => by
  cases ds with
  | nil => cases r; exact ⟨rfl, q σ G H same_rfl fi (fun _ _ => rfl) rfl⟩
  | cons d ds => exact q.elim
theorem pxg_cons {e : Expr} {es : List Expr} {ts us : List Nat} {t : GV} {u : GVs} (h1 : PXG X f e ts t) (h2 : PGs X es (tXGs f us u)) (hs : (assignEach (e :: es) X.env).map (·.2) = assign e X.env :: (assignEach es X.env).map (·.2) := by rfl) :
    PGs X (e :: es) (tXGs f (ts ++ us) (tCons t u)) :=
  PGs.imp (pgs_cons h1 h2 hs) fun vs σ H Q ⟨G, ρ, ds, fi, r, q⟩ => by
    cases ds with
    | nil => exact q.elim
    | cons d ds =>
      obtain ⟨v, rr, rfl, r1, r2⟩ := r.inv_cons
      refine ⟨v, rr, rfl, G, ρ, d, fi, r1, ?_⟩
      simp only [tCons] at q
      cases h : t d ρ with
      | ok a ρ1 =>
        simp only [h, Re.bind] at q
        refine fun σ' G' H' s fi' k1 l1 => ⟨G', ρ1, ds, fi', r2.up s, ?_⟩
        have q2 := PostG.up s q
        cases h2 : u ds ρ1 with
        | ok a2 ρ2 =>
          rw [h2] at q2
          exact fun σ2 G2 H2 s2 fi2 k2 l2 => q2 σ2 G2 H2 s2 fi2 (fun j hj => (k2 j fun z => hj (List.mem_append_right _ z)).trans (k1 j fun z => hj (List.mem_append_left _ z))) (l2.trans l1)
        | er e ρ2 => rw [h2] at q2; exact q2.elim
        | no => rw [h2] at q2; exact q2.elim
      | er e ρ1 => simp only [h, Re.bind] at q; exact q.elim
      | no => simp only [h, Re.bind] at q; exact q.elim
theorem pxg_tup {es : List Expr} {k : Nat} {ts : List Nat} {t : GVs} {n : Nat} (hc : X.calm = true) (h : PGs X es (tXGs f ts t)) (hn : (assignEach es X.env).length = n := by rfl) (hst : (assignEach es X.env).findIdx? (·.1) = none := by rfl) (hk : X.K = f.g.K := by rfl) :
    PXG X f (.Tuple es k pos) ts (tTup n t) := PG.imp (pg_tup hc h hn hst) fun v σ H Q ⟨G, ρ, d, fi, r, q⟩ => by
  cases r with
  | tup qa na ra =>
    unfold tTup at q
    simp only at q
    split at q
    · rename_i hl
      exact ⟨_, _, rfl, by rw [hk]; exact sqTS fi.gh qa, by rw [ra.len]; exact hl, G, ρ, _, fi, ra, q⟩
    · exact q.elim
  | _ => exact q.elim

/-! ### statements -/
@[simp] def sNil : SV := fun ρ => .ok .nx ρ
@[simp] def sSeq (a b : SV) : SV := fun ρ => (a ρ).bind fun fl ρ1 => match fl with
  | .nx => b ρ1
  | x => .ok x ρ1
@[simp] def sPass : SV := fun ρ => .ok .nx ρ
@[simp] def sBrk : SV := fun ρ => .ok .bk ρ
@[simp] def sCnt : SV := fun ρ => .ok .ct ρ
@[simp] def sExpr (e : EV) : SV := fun ρ => (e ρ).bind fun _ ρ1 => .ok .nx ρ1
@[simp] def sRet (e : EV) : SV := fun ρ => (e ρ).bind fun d ρ1 => .ok (.rt d) ρ1
@[simp] def sRetN : SV := fun ρ => .ok (.rt .non) ρ
@[simp] def sIf (t : BV) (a b : SV) : SV := fun ρ => (t ρ).bind fun k ρ1 => match k with
  | true => a ρ1
  | false => b ρ1
@[simp] def sAsg (e : EV) (t : GV) : SV := fun ρ => (e ρ).bind fun d ρ1 => match t d ρ1 with
  | .ok _ ρ2 => .ok .nx ρ2
  | _ => .no
def forD (b : D → SV) : List D → SV
  | [] => fun ρ => .ok .nx ρ
  | d :: r => fun ρ => match b d ρ with
    | .ok .nx ρ' => forD b r ρ'
    | .ok .ct ρ' => forD b r ρ'
    | .ok .bk ρ' => .ok .nx ρ'
    | .ok (.rt v) ρ' => .ok (.rt v) ρ'
    | .ok (.rc v) ρ' => .ok (.rc v) ρ'
    | .er e ρ' => .er e ρ'
    | .no => .no
@[simp] def bodyD (t : GV) (b : SV) : D → SV := fun d ρ => match t d ρ with
  | .ok _ ρ1 => b ρ1
  | _ => .no
@[simp] def sFor (iv : LV) (t : GV) (b : SV) : SV := fun ρ => (iv ρ).bind fun ds ρ1 => forD (bodyD t b) ds ρ1
def whileD (t : BV) (b : SV) : Nat → SV
  | 0 => fun _ => .no
  | n + 1 => fun ρ => (t ρ).bind fun k ρ1 => match k with
    | false => .ok .nx ρ1
    | true => match b ρ1 with
      | .ok .nx ρ' => whileD t b n ρ'
      | .ok .ct ρ' => whileD t b n ρ'
      | .ok .bk ρ' => .ok .nx ρ'
      | .ok (.rt v) ρ' => .ok (.rt v) ρ'
      | .ok (.rc v) ρ' => .ok (.rc v) ρ'
      | .er e ρ' => .er e ρ'
      | .no => .no
abbrev sWhile (t : BV) (b : SV) : SV := whileD t b 1000000000
variable {st : Stmt} {rest : List Stmt} {e : Expr} {ev : EV} {a b : SV}
theorem pxs_nil : PXSs X f W [] sNil := PSs.imp pss_nil fun Dd σ H ⟨G, ρ, fi, q⟩ => q σ G H same_rfl fi
/-- a statement's end, then what comes behind it -/
theorem seqS {Dd : Ends} {G : Hp} {r : Re Fl} {b : SV} (q : PostS f W G Dd (r.bind fun fl ρ1 => match fl with
    | .nx => b ρ1
    | x => .ok x ρ1)) : PostS f W G { Dd with nx := tXS f W b Dd } r := by
  cases r with
  | ok fl ρ1 =>
    cases fl with
    | nx => exact fun σ' G' H' s fi => ⟨G', ρ1, fi, PostS.up s q⟩
    | bk => exact q
    | ct => exact q
    | rt d => exact q
    | rc d => exact q
  | er e ρ1 => exact q
  | no => exact q
theorem pxs_cons (h1 : PXS X f W st a) (h2 : PXSs X f W rest b) : PXSs X f W (st :: rest) (sSeq a b) := PSs.imp (pss_cons h1 h2) fun Dd σ H ⟨G, ρ, fi, q⟩ => ⟨G, ρ, fi, seqS q⟩
theorem pxs_one (h1 : PXS X f W st a) : PXSs X f W [st] a := pss_one h1
theorem pxs_pass : PXS X f W (.Pass pos) sPass := PS.imp ps_pass fun Dd σ H ⟨G, ρ, fi, q⟩ => q σ G H same_rfl fi
theorem pxs_brk : PXS X f W (.Break pos) sBrk := PS.imp ps_break fun Dd σ H ⟨G, ρ, fi, q⟩ => q σ G H same_rfl fi
theorem pxs_cnt : PXS X f W (.Continue pos) sCnt := PS.imp ps_continue fun Dd σ H ⟨G, ρ, fi, q⟩ => q σ G H same_rfl fi
theorem pxs_expr (h : PX X f W e ev) (hs : swapsWith e none pos.line X.env = pure false := by rfl) : PXS X f W (.Expr e pos) (sExpr ev) := PS.imp (ps_expr h hs) fun Dd σ H ⟨G, ρ, fi, q⟩ =>
  ⟨G, ρ, fi, PostS.bindX q fun d ρ1 G1 H1 s1 fi1 q1 v rv => q1 σ G1 H1 same_rfl fi1⟩
theorem pxs_ret (h : PX X f W e ev) : PXS X f W (.Return (some e) pos) (sRet ev) := PS.imp (ps_ret h) fun Dd σ H ⟨G, ρ, fi, q⟩ =>
  ⟨G, ρ, fi, PostS.bindX q fun d ρ1 G1 H1 s1 fi1 q1 v rv => q1 σ G1 H1 same_rfl fi1 v rv⟩
theorem pxs_retN : PXS X f W (.Return none pos) sRetN := PS.imp ps_retN fun Dd σ H ⟨G, ρ, fi, q⟩ => q σ G H same_rfl fi _ .non
theorem pxs_if {c : Expr} {p q : List Stmt} {t : BV} (hc : PXB X f W c t) (ha : PXSs X f W p a) (hb : PXSs X f W q b) : PXS X f W (.If c p q pos) (sIf t a b) := PS.imp (ps_if hc ha hb) fun Dd σ H ⟨G, ρ, fi, q⟩ =>
  ⟨G, ρ, fi, PostS.bindX q fun k ρ1 G1 H1 s1 fi1 q1 => by
    cases k with
    | true => exact ⟨G1, ρ1, fi1, q1⟩
    | false => exact ⟨G1, ρ1, fi1, q1⟩⟩
theorem asgS {Dd : Ends} {σ : L2.St} {G H : Hp} {ρ : Ev} {d : D} {v : V} {t : GV} {ts : List Nat} (fi : FI f G H σ ρ) (r : Rp f.g G v d) (q : PostS f W G Dd (match t d ρ with
    | .ok _ ρ2 => .ok .nx ρ2
    | _ => .no)) : tXG f ts t v σ H Dd.nx := by
  refine ⟨G, ρ, d, fi, r, ?_⟩
  cases h : t d ρ with
  | ok a ρ1 => rw [h] at q; exact fun σ' G' H' s fi' _ _ => q σ' G' H' s fi'
  | er e ρ1 => rw [h] at q; exact q.elim
  | no => rw [h] at q; exact q.elim
theorem pxs_asg {tg : Expr} {t : GV} {ts : List Nat} (h : PX X f W e ev) (hg : PXG X f tg ts t) (hs : swapsWithSole [tg] e pos.line X.env = pure false := by rfl) (hw : swappedStores [tg] e X.env = pure none := by rfl) (h1 : (assignEach [tg] X.env).map (·.2) = [assign tg X.env] := by rfl) :
    PXS X f W (.Assign [tg] e pos) (sAsg ev t) := PS.imp (ps_asg h hg hs hw h1) fun Dd σ H ⟨G, ρ, fi, q⟩ => ⟨G, ρ, fi, PostS.bindX q fun d ρ1 G1 H1 s1 fi1 q1 v rv => asgS fi1 rv q1⟩
theorem pxs_set {i : Nat} {x : Str} {pos' : Pos} (hN : X.N.Nodup) (hi : X.N[i]? = some x) (hx : Loc X.env.scope x) (h : PX X f W e ev) (hs : swapsWith e (some (.Name x pos')) pos.line X.env = pure false := by rfl)
    (hf : X.fn x = true ∨ X.env.scope.names.lookup x = some .local := by first | exact .inl rfl | exact .inr rfl | assumption) : PXS X f W (.Assign [.Name x pos'] e pos) (sAsg ev (tName i)) :=
  PS.imp (ps_set hN hi hx h hs hf) fun Dd σ H ⟨G, ρ, fi, q⟩ => ⟨G, ρ, fi, PostS.bindX q fun d ρ1 G1 H1 s1 fi1 q1 v rv => by
    simp only [tName] at q1
    split at q1
    · rename_i e1
      split at e1
      · cases e1
      · rename_i s hs hnb
        cases e1
        exact q1 _ G1 H1 same_rfl (fi1.setDat rv fun c e => by rw [e] at hnb; cases hnb; exact absurd rfl (hs c))
      · cases e1
    · exact q1.elim⟩
/-- a, b = x, y of two local names -/
@[simp] def sPar (i j : Nat) (av : AV) : SV := fun ρ => (av ρ).bind fun ds ρ1 => match ds with
  | [d, e] => match tName i d ρ1 with
    | .ok _ ρ2 => match tName j e ρ2 with
      | .ok _ ρ3 => .ok .nx ρ3
      | _ => .no
    | _ => .no
  | _ => .no
theorem tName_ok {i : Nat} {d : D} {ρ ρ' : Ev} {u : Unit} (h : tName i d ρ = .ok u ρ') : ρ' = ρ.set i (.dat d) ∧ ∀ c, ρ[i]? ≠ some (.bor c) := by
  unfold tName at h
  split at h
  · cases h
  · rename_i s hs hnb
    cases h
    exact ⟨rfl, fun c e => by rw [e] at hnb; cases hnb; exact absurd rfl (hs c)⟩
  · cases h
theorem pxs_par {i j : Nat} {x y : Str} {a b : Expr} {av : AV} {px py pt : Pos} {kt k2 pt2} (hc : X.calm = true) (hN : X.N.Nodup) (hi : X.N[i]? = some x) (hj : X.N[j]? = some y) (hij : i ≠ j)
    (hx : X.env.scope.names.lookup x = some .local) (hy : X.env.scope.names.lookup y = some .local) (ha : PXA X f W [a, b] av)
    (hw : swappedStores [.Tuple [.Name x px, .Name y py] kt pt] (.Tuple [a, b] k2 pt2) X.env = pure (some [x, y]))
    (hs : swapsWithSole [.Tuple [.Name x px, .Name y py] kt pt] (.Tuple [a, b] k2 pt2) pos.line X.env = pure false := by rfl) :
    PXS X f W (.Assign [.Tuple [.Name x px, .Name y py] kt pt] (.Tuple [a, b] k2 pt2) pos) (sPar i j av) :=
  PS.imp (ps_par hc hN hi hj hij hx hy ha hw hs) fun Dd σ H ⟨G, ρ, fi, q⟩ => ⟨G, ρ, fi, PostS.bindX q fun ds ρ1 G1 H1 s1 fi1 q1 vs rvs => by
    split at q1
    · obtain ⟨v, w, rfl, r1, r2⟩ := rpl2 rvs
      refine ⟨v, w, rfl, ?_⟩
      split at q1
      · rename_i u ρ2 e1
        split at q1
        · rename_i u2 ρ3 e2
          obtain ⟨rfl, n1⟩ := tName_ok e1
          obtain ⟨rfl, n2⟩ := tName_ok e2
          exact q1 _ G1 H1 same_rfl ((fi1.setDat r1 n1).setDat r2 n2)
        · exact q1.elim
      · exact q1.elim
    · exact q1.elim⟩

/-! ### loops -/
theorem forS {Dd : Ends} {G : Hp} {Nx : L2.St → Hp → Prop} {r : Re Fl} {k : SV} (q : PostS f W G Dd (match r with
    | .ok .nx ρ' => k ρ'
    | .ok .ct ρ' => k ρ'
    | .ok .bk ρ' => .ok .nx ρ'
    | .ok (.rt v) ρ' => .ok (.rt v) ρ'
    | .ok (.rc v) ρ' => .ok (.rc v) ρ'
    | .er e ρ' => .er e ρ'
    | .no => .no)) (h : ∀ σ' G' H' ρ', Same G G' → FI f G' H' σ' ρ' → PostS f W G' Dd (k ρ') → Nx σ' H') : PostS f W G { Dd with nx := Nx, ct := Nx, bk := Dd.nx } r := by
  cases r with
  | ok fl ρ' =>
    cases fl with
    | nx => exact fun σ' G' H' s fi => h σ' G' H' ρ' s fi (PostS.up s q)
    | ct => exact fun σ' G' H' s fi => h σ' G' H' ρ' s fi (PostS.up s q)
    | bk => exact q
    | rt d => exact q
    | rc d => exact q
  | er e ρ' => exact q
  | no => exact q
theorem pxs_for {iter tg : Expr} {body : List Stmt} {iv : LV} {t : GV} {ts : List Nat} (hp : PassesOwn (model X.prog X.w) X.A X.env X.xe) (hc : X.calm = true) (hi : PXI X f W tg iter iv) (hg : PXG X f tg ts t) (hb : PXSs X f W body b)
    (hs : ∀ x, foldedSetIterable iter X.env x = pure x := by intro _; rfl) : PXS X f W (.For tg iter body [] pos) (sFor iv t b) :=
  PS.imp (ps_for hp hc hi hg hb hs) fun Dd σ H ⟨G, ρ, fi, q⟩ => ⟨G, ρ, fi, PostS.bindX q fun ds ρ1 G1 H1 s1 fi1 q1 J ⟨Gd, Y, w, gd, yy⟩ => by
    refine for_it w (fun i σ H => ∃ G ρ, FI f G H σ ρ ∧ Same G1 G ∧ PostS f W G Dd (forD (bodyD t b) (ds.drop i) ρ)) ⟨G1, ρ1, fi1, same_rfl, by simpa using q1⟩ (fun i σ H _ ⟨G, ρ, fi, s, _⟩ => gd G H s fi.gh) (fun i x σ H H' hi ⟨G, ρ, fi, s, q⟩ y => ?_) fun σ H ⟨G, ρ, fi, s, q⟩ => ?_
    · obtain ⟨G3, d, ext, hd, rp⟩ := yy i H x H' y G s fi.gh
      rw [List.drop_eq_getElem_cons hi, show ds[i] = d by rw [List.getElem?_eq_getElem hi] at hd; exact Option.some.inj hd] at q
      unfold forD at q
      refine ⟨G3, ρ, d, fi.ext ext, rp, ?_⟩
      have q' := PostS.up ext.g q
      cases ht : t d ρ with
      | ok a ρ2 =>
        simp only [bodyD, ht] at q'
        exact fun σ' G' H' s' fi' _ _ => ⟨G', ρ2, fi', PostS.up s' (forS q' fun σ' G' H' ρ' s2 fi2 q2 => ⟨G', ρ', fi2, same_trans s (same_trans ext.g s2), q2⟩)⟩
      | er e ρ2 => simp only [bodyD, ht] at q'; exact q'.elim
      | no => simp only [bodyD, ht] at q'; exact q'.elim
    · rw [List.drop_length] at q
      exact q σ G H same_rfl fi⟩
theorem pxs_while {c : Expr} {body : List Stmt} {t : BV} (hp : PassesOwn (model X.prog X.w) X.A X.env X.xe) (hc : PXB X f W c t) (hb : PXSs X f W body b) : PXS X f W (.While c body [] pos) (sWhile t b) :=
  PS.imp (ps_while hp hc hb) fun Dd σ H ⟨G, ρ, fi, q⟩ => by
    refine ⟨fun m σ H => ∃ G ρ, FI f G H σ ρ ∧ PostS f W G Dd (whileD t b m ρ), ⟨_, G, ρ, fi, q⟩, fun m σ H ⟨G, ρ, fi, q⟩ => ?_⟩
    cases m with
    | zero => exact q.elim
    | succ m =>
      unfold whileD at q
      refine ⟨G, ρ, fi, PostS.bindX q fun k ρ1 G1 H1 s1 fi1 q1 => ?_⟩
      cases k with
      | false => exact q1 _ G1 H1 same_rfl fi1
      | true => exact ⟨fun σ' H' => ∃ G ρ, FI f G H' σ' ρ ∧ PostS f W G Dd (whileD t b m ρ), fun _ _ h => ⟨m, Nat.lt_succ_self _, h⟩, G1, ρ1, fi1, forS q1 fun σ' G' H' ρ' s2 fi2 q2 => ⟨G', ρ', fi2, q2⟩⟩
end
end Dx

set_option Elab.async false
set_option linter.all false
set_option maxRecDepth 100000
set_option maxHeartbeats 4000000
/-! the data layer: new cells, comprehensions -/
namespace Dx
open PySem PySem.Spec PyProof.Rows L2 Gd

abbrev Fm.add (f : Fm) (p : Addr) (o : HO) : Fm := ⟨f.g, f.ps, f.G0, f.H0, (p, o) :: f.pr⟩
abbrev Fm.at (f : Fm) (pr : List (Addr × HO)) : Fm := ⟨f.g, f.ps, f.G0, f.H0, pr⟩
section
variable {f : Fm} {G H G' H' : Hp} {σ : L2.St} {ρ : Ev} {p : Addr} {o : HO}
/-- what a slot's datum asks does not hang on what is being made -/
theorem FI.noH0 (h : FI f G H σ ρ) (hp : H p = none) : f.H0 p = none := by
  by_cases hm : p ∈ f.ps
  · exact absurd hp (h.psH p hm)
  · cases e : f.H0 p with
    | none => rfl
    | some u => rw [h.gr.h p u hm e] at hp; cases hp
theorem FI.lay (h : FI f G H σ ρ) (hp : H p = none) : FI (f.add p o) G (upd H p o) σ ρ := by
  have e := h.ext (Ext.lay (o := o) h.gh hp)
  refine ⟨e.gh, e.gr, e.len, fun i s z => ?_, e.ap, e.bo, fun q hq => ?_, ?_⟩
  · have := e.sl i s z
    cases s <;> exact this
  · rcases List.mem_cons.mp hq with rfl | hq
    · refine ⟨upd_same, ?_, h.noH0 hp, fun i s z m c => ?_⟩
      · cases q : G p with
        | none => rfl
        | some u => rw [h.gh p u q] at hp; cases hp
      · obtain ⟨p', c', e1, e2, _⟩ := h.at z m
        rw [c] at e1; cases e1
        exact e2.th hp
    · exact e.pr q hq
  · show ((p, o) :: f.pr).map (·.1) |>.Nodup
    rw [List.map_cons, List.nodup_cons]
    refine ⟨fun hm => ?_, h.np⟩
    obtain ⟨q, hq, rfl⟩ := List.mem_map.mp hm
    rw [(h.pr q hq).1] at hp; cases hp
theorem FI.unlay (h : FI (f.add p o) G H σ ρ) : FI f G H σ ρ := by
  have np : (((p, o) :: f.pr).map (·.1)).Nodup := h.np
  rw [List.map_cons, List.nodup_cons] at np
  refine ⟨h.gh, h.gr, h.len, fun i s z => ?_, h.ap, h.bo, fun q hq => h.pr q (List.mem_cons_of_mem _ hq), np.2⟩
  have := h.sl i s z
  cases s <;> exact this
theorem FI.laid (h : FI (f.add p o) G H σ ρ) : H p = some o ∧ G p = none ∧ f.H0 p = none ∧ (∀ (i : Nat) (s : Slot), ρ[i]? = some s → s.mut = true → σ[i]? ≠ some (some (V.ref p))) ∧ ∀ q ∈ f.pr, q.1 ≠ p := by
  obtain ⟨a, b, c, d⟩ := h.pr (p, o) List.mem_cons_self
  have np : (((p, o) :: f.pr).map (·.1)).Nodup := h.np
  rw [List.map_cons, List.nodup_cons] at np
  exact ⟨a, b, c, d, fun q hq z => np.1 (List.mem_map.mpr ⟨q, hq, z⟩)⟩
/-- what is being made goes on -/
theorem FI.relay {o' : HO} (h : FI (f.add p o) G H σ ρ) (ho : ∀ q, o ≠ .own q) : FI (f.add p o') G (upd H p o') σ ρ := by
  obtain ⟨a, b, c, d, e⟩ := h.laid
  have u := h.unlay.put (o := o') b c (fun q z => ho q (by rw [a] at z; exact Option.some.inj z)) d e
  refine ⟨u.gh, u.gr, u.len, fun i s z => ?_, u.ap, u.bo, fun q hq => ?_, h.np⟩
  · have := u.sl i s z
    cases s <;> exact this
  · rcases List.mem_cons.mp hq with rfl | hq
    · exact ⟨upd_same, b, c, d⟩
    · exact u.pr q hq
/-- what was made is frozen -/
theorem FI.doneAt {d : D} {o' : HO} (h : FI (f.add p o) G H σ ρ) (nop : ∀ q, o ≠ .own q) (rp : ∀ G', Same G G' → G' p = some o' → Rp f.g G' (.ref p) d) : Same G (upd G p o') ∧ FI f (upd G p o') (upd H p o') σ ρ ∧ Rp f.g (upd G p o') (.ref p) d := by
  obtain ⟨a, b, z, n, e⟩ := h.laid
  have sg : Same G (upd G p o') := same_new b
  have rr : Rp f.g (upd G p o') (.ref p) d := rp _ sg upd_same
  have cr : ∀ {q c2}, q ≠ p → CellR f.g G H q c2 → CellR f.g (upd G p o') (upd H p o') q c2 := fun {q c2} n x => by
    cases c2 with
    | lst ds => obtain ⟨g0, z, xs, e1, r1⟩ := x; exact ⟨(upd_ne n).trans g0, z, xs, (upd_ne n).trans e1, r1.up sg⟩
    | dic ks => obtain ⟨g0, z, xs, e1, e2, r1⟩ := x; exact ⟨(upd_ne n).trans g0, z, xs, (upd_ne n).trans e1, e2, r1.up sg⟩
    | ins c fs =>
      obtain ⟨g0, C, dx, fv, e1, e2, mm, q', r1⟩ := x
      exact ⟨(upd_ne n).trans g0, C, dx, fv, (upd_ne n).trans e1, sg _ _ e2, mm, q', r1.up sg⟩
  have gh : Same (upd G p o') (upd H p o') := fun b u eb => by
    by_cases hbp : b = p
    · subst hbp; rw [upd_same] at eb ⊢; exact eb
    · rw [upd_ne hbp] at eb ⊢; exact h.gh b u eb
  have u := h.unlay
  refine ⟨sg, ⟨gh, ⟨same_trans u.gr.g sg, fun b w nb e0 => ?_, fun b hb => ?_⟩, u.len, fun j t ej => ?_, u.ap, u.bo, fun q hq => ?_, u.np⟩, rr⟩
  · rw [upd_ne (ne_of_none e0 z)]; exact u.gr.h b w nb e0
  · have : b ≠ p := fun z2 => hb (by rw [z2]; exact z)
    rw [upd_ne this]
    exact u.gr.f b hb
  · have q := u.sl j t ej
    cases t with
    | no => trivial
    | dat d' => obtain ⟨v', e', r'⟩ := q; exact ⟨v', e', r'.up sg⟩
    | own c => obtain ⟨p', e', r', z⟩ := q; exact ⟨p', e', cr (fun z2 => n j _ ej rfl (by rw [← z2]; exact e')) r', z⟩
    | bor c => obtain ⟨p', z, e', r'⟩ := q; exact ⟨p', z, e', cr (fun z2 => n j _ ej rfl (by rw [← z2]; exact e')) r'⟩
  · obtain ⟨a', b', c0, d'⟩ := u.pr q hq
    exact ⟨(upd_ne (e q hq)).trans a', (upd_ne (e q hq)).trans b', c0, d'⟩
theorem FI.done {c : Cell} {d : D} (h : FI (f.add p o) G H σ ρ) (r : CellR f.g G H p c) (hd : c.frz = some d) : FrzAs H p fun H' => ∃ G', Same G G' ∧ FI f G' H' σ ρ ∧ Rp f.g G' (.ref p) d := by
  have a := h.laid.1
  cases c with
  | lst ds =>
    obtain ⟨_, n, xs, e1, r1⟩ := r
    have ea : o = .lst xs := Option.some.inj (a.symm.trans e1)
    subst ea
    cases hd
    have z := h.doneAt (o' := .lst xs) (d := .lst ds) (fun _ z => by cases z) fun G' s q => .lst q n (r1.up s)
    rw [upd_eta e1] at z
    exact .inl ⟨_, z⟩
  | dic ks =>
    obtain ⟨_, n, xs, e1, e2, r1⟩ := r
    have ea : o = .dK xs := Option.some.inj (a.symm.trans e1)
    subst ea
    cases hd
    exact .inr ⟨xs, e1, fun od => ⟨_, h.doneAt (o' := .frz od (.dK xs)) (d := .dic ks) (fun _ z => by cases z) fun G' s q => .dic q n e2 (r1.up s)⟩⟩
  | ins c fs =>
    obtain ⟨_, C, dx, fv, e1, e2, mm, q, r1⟩ := r
    have ea : o = .ins C dx fv := Option.some.inj (a.symm.trans e1)
    subst ea
    cases hd
    have z := h.doneAt (o' := .ins C dx fv) (d := .obj c fs) (fun _ z => by cases z) fun G' s gp => .obj gp (s _ _ e2) mm q (r1.up s)
    rw [upd_eta e1] at z
    exact .inl ⟨_, z⟩
end

/-! ### new cells -/
section
variable (f : Fm) (W : WX)
def PostF (σ : L2.St) (G : Hp) (Q : VK) : Re Cell → Prop
  | .ok c ρ' => ∀ p o G' H', Same G G' → FI (f.add p o) G' H' σ ρ' → CellR f.g G' H' p c → Q (.ref p) H'
  | .er e ρ' => ∀ cls dd G' H', Same G G' → FI f G' H' σ ρ' → ErR f.g G' cls dd e → W cls dd σ H'
  | .no => False
abbrev CV := Ev → Re Cell
def tXF (ev : CV) : TE := fun σ H Q => ∃ G ρ, FI f G H σ ρ ∧ PostF f W σ G Q (ev ρ)
end
abbrev PXF (X : Cx) (f : Fm) (W : WX) (e : Expr) (ev : CV) : Prop := PE X e (tXF f W ev)
section
variable {f : Fm} {W : WX} {σ : L2.St} {G G1 : Hp}
theorem PostF.up {Q : VK} {r : Re Cell} (s : Same G G1) (h : PostF f W σ G Q r) : PostF f W σ G1 Q r := by
  cases r with
  | ok a ρ => exact fun p o G' H' s' => h p o G' H' (same_trans s s')
  | er e ρ => exact fun cls dd G' H' s' => h cls dd G' H' (same_trans s s')
  | no => exact h
theorem PostF.bindX {α : Type} {Q : VK} {Q' : α → Hp → Hp → Prop} {r : Re α} {k : α → Ev → Re Cell} (h : PostF f W σ G Q (r.bind k))
    (i : ∀ a ρ' G' H', Same G G' → FI f G' H' σ ρ' → PostF f W σ G' Q (k a ρ') → Q' a G' H') : PostX f W σ G Q' r := by
  cases r with
  | ok a ρ => exact fun G' H' s fi => i a ρ G' H' s fi (PostF.up s h)
  | er e ρ => exact h
  | no => exact h
/-- a new cell that is frozen at once -/
@[simp] def eFrz (ev : CV) : EV := fun ρ => (ev ρ).bind fun c ρ1 => Re.opt ρ1 c.frz
variable {X : Cx} {e : Expr} {es : List Expr} {pos : Pos}
theorem px_frz {ev : CV} (h : PXF X f W e ev) : PX X f W e (eFrz ev) := PE.imp (pe_lockR h) fun σ H Q ⟨G, ρ, fi, q⟩ => ⟨G, ρ, fi, by
  simp only [eFrz] at q
  cases he : ev ρ with
  | ok c ρ1 =>
    simp only [he, Re.bind] at q
    intro p o G' H' s fi' cr
    cases hd : c.frz with
    | none => simp only [hd, Re.opt] at q; exact q.elim
    | some d =>
      simp only [hd, Re.opt] at q
      exact (fi'.done cr hd).res fun H2 ⟨G2, x, fi2, rp⟩ => q _ _ (same_trans s x) fi2 _ rp
  | er e ρ1 => simp only [he, Re.bind] at q; exact q
  | no => simp only [he, Re.bind] at q; exact q.elim⟩
@[simp] def cLst (a : AV) : CV := fun ρ => (a ρ).bind fun ds ρ1 => if ds.length ≤ big then .ok (.lst ds) ρ1 else .no
theorem pxf_lst {av : AV} (h : PXA X f W es av) : PXF X f W (.List es pos) (cLst av) := PE.imp (pe_lst h) fun σ H Q ⟨G, ρ, fi, q⟩ => ⟨G, ρ, fi, PostF.bindX q fun ds ρ1 G1 H1 s1 fi1 q1 vs rvs => by
  split at q1
  · rename_i hb
    refine ⟨by rw [rvs.len]; exact Nat.le_trans hb big_le, fun p hp => ?_⟩
    have fi2 := fi1.lay (o := .lst vs) hp
    exact q1 p _ G1 _ same_rfl fi2 ⟨fi2.laid.2.1, hb, vs, upd_same, rvs⟩
  · exact q1.elim⟩
@[simp] def cDic0 : CV := fun ρ => .ok (.dic []) ρ
theorem pxf_dic0 : PXF X f W (.Dict [] [] pos) cDic0 := PE.imp pe_dnewK fun σ H Q ⟨G, ρ, fi, q⟩ p hp => by
  have fi2 := fi.lay (o := .dK []) hp
  exact q p _ G _ same_rfl fi2 ⟨fi2.laid.2.1, Nat.zero_le _, [], upd_same, rfl, .nil⟩
/-- a call that makes a new list -/
def rXAF (g : Gm) (F : List D → Option (List D)) : List V → Hp → VK → Prop := fun vs H Q => ∃ G ds r, Same G H ∧ RpL g G vs ds ∧ F ds = some r ∧ ∀ ws p, RpL g G ws r → H p = none → Q (.ref p) (upd H p (.lst ws))
@[simp] def cBi (F : List D → Option (List D)) (a : AV) : CV := fun ρ => (a ρ).bind fun ds ρ1 => match F ds with
  | some r => if r.length ≤ big then .ok (.lst r) ρ1 else .no
  | none => .no
theorem argsF {av : AV} {F : List D → Option (List D)} {σ : L2.St} {H : Hp} {Q : VK} (h : tXF f W (cBi F av) σ H Q) : tCB (rXAF f.g F) (tXA f W av) σ H Q := by
  obtain ⟨G, ρ, fi, q⟩ := h
  refine ⟨G, ρ, fi, PostF.bindX q fun ds ρ1 G1 H1 s1 fi1 q1 vs rvs => ?_⟩
  split at q1
  · rename_i r hF
    split at q1
    · rename_i hb
      refine ⟨G1, ds, r, fi1.gh, rvs, hF, fun ws p rw' hp => ?_⟩
      have fi2 := fi1.lay (o := .lst ws) hp
      exact q1 p _ G1 _ same_rfl fi2 ⟨fi2.laid.2.1, hb, ws, upd_same, rw'⟩
    · exact q1.elim
  · exact q1.elim
theorem pxf_bt {x : Str} {T : String} {av : AV} {F : List D → Option (List D)} {p : Pos} (hc : CallR X (.type T) (rXAF f.g F)) (ha : PXA X f W (e :: es) av) (hm : X.mg x = none) (hg : Gl X x := by rfl) (hv : bootBuiltins x = some (.type T) := by decide +kernel) (hn : x ≠ "__name__" := by decide) (hdb : (x == ("__debug__" : Str)) = false := by decide)
    (he : starEach (e :: es) X.env = (false, eval e X.env) :: starEach es X.env := by rfl) (hpl : (backTo pos (starEach es X.env)).any (·.1) = false := by rfl) : PXF X f W (.Call (.Name x p) (e :: es) [] pos) (cBi F av) :=
  PE.imp (pe_callTy hc hg hm hv ha hn hdb he hpl) fun _ _ _ h => argsF h
theorem pxf_bi {x : Str} {T : String} {av : AV} {F : List D → Option (List D)} {p : Pos} (hc : CallR X (.builtin T) (rXAF f.g F)) (ha : PXA X f W (e :: es) av) (hm : X.mg x = none) (hg : Gl X x := by rfl) (hv : bootBuiltins x = some (.builtin T) := by decide +kernel) (hn : x ≠ "__name__" := by decide) (hdb : (x == ("__debug__" : Str)) = false := by decide)
    (he : starEach (e :: es) X.env = (false, eval e X.env) :: starEach es X.env := by rfl) (hpl : (backTo pos (starEach es X.env)).any (·.1) = false := by rfl) : PXF X f W (.Call (.Name x p) (e :: es) [] pos) (cBi F av) :=
  PE.imp (pe_callB hc hg hm hv ha hn hdb he hpl) fun _ _ _ h => argsF h
def lList : List D → Option (List D)
  | [.lst xs] => some xs
  | [.tup xs] => some xs
  | _ => none
theorem cf_list {g : Gm} (hk : X.K = g.K := by rfl) : CallR X (.type "list") (rXAF g lList) := by
  intro pins s σ H vs us Q I rv ⟨G, ds, r, sg, rd, hF, q⟩
  unfold lList at hF
  split at hF <;> cases hF <;> obtain ⟨v, rfl, rp⟩ := rpl1 rd
  · cases rp with | lst qa na ra =>
    exact call_list_of pins s σ H _ us Q I rv ⟨_, _, rfl, .inl (SqL.of (sg _ _ qa)), fun p hp => q _ p ra hp⟩
  · cases rp with | tup qa na ra =>
    exact call_list_of pins s σ H _ us Q I rv ⟨_, _, rfl, .inr (by rw [hk]; exact sqTS sg qa), fun p hp => q _ p ra hp⟩
/-- [..] * n -/
@[simp] def cRep (a b : EV) : CV := fun ρ => (a ρ).bind fun x ρ1 => (b ρ1).bind fun y ρ2 => match x, y with
  | .lst xs, .int k => if xs.length * k.toNat ≤ big ∧ k.natAbs < 2 ^ 63 then .ok (.lst (List.replicate k.toNat xs).flatten) ρ2 else .no
  | _, _ => .no
theorem pxf_rep {a b : Expr} {ea eb : EV} (ha : PX X f W a ea) (hb : PX X f W b eb) : PXF X f W (.BinOp a .Mult b pos) (cRep ea eb) := PE.imp (pe_op op_rep ha hb) fun σ H Q ⟨G, ρ, fi, q⟩ =>
  ⟨G, ρ, fi, PostF.bindX q fun d ρ1 G1 H1 s1 fi1 q1 v rv => ⟨G1, ρ1, fi1, PostF.bindX q1 fun e ρ2 G2 H2 s2 fi2 q2 u ru => by
    split at q2
    · split at q2
      · rename_i xs k hz
        have rv2 := rv.up s2
        cases rv2 with | lst qa na ra =>
        cases ru
        refine ⟨_, _, _, rfl, rfl, fi2.gh _ _ qa, (by have := hz.2; omega), (by have := hz.2; omega), by rw [ra.len]; exact Nat.le_trans hz.1 big_le, fun p hp => ?_⟩
        have gp := (fi2.lay (o := .lst []) hp).laid.2.1
        exact q2 p _ G2 _ same_rfl (fi2.lay hp) ⟨gp, by rw [len_rep]; exact hz.1, _, upd_same, rpl_rep ra _⟩
      · exact q2.elim
    · exact q2.elim⟩⟩
/-- return of a new cell -/
@[simp] def sRetC (ev : CV) : SV := fun ρ => (ev ρ).bind fun c ρ1 => .ok (.rc c) ρ1
theorem pxs_retC {ev : CV} (h : PXF X f W e ev) : PXS X f W (.Return (some e) pos) (sRetC ev) := PS.imp (ps_ret h) fun Dd σ H ⟨G, ρ, fi, q⟩ => ⟨G, ρ, fi, by
  simp only [sRetC] at q
  cases he : ev ρ with
  | ok c ρ1 =>
    simp only [he, Re.bind] at q
    intro p o G' H' s fi' cr
    exact q σ G' H' s fi'.unlay p cr fi'.laid.2.2.1
  | er e ρ1 =>
    simp only [he, Re.bind] at q
    exact fun cls dd G' H' s fi' er => q cls dd σ G' H' s fi' er
  | no => simp only [he, Re.bind] at q; exact q.elim⟩
/-- name = a new cell -/
@[simp] def sOwn (i : Nat) (ev : CV) : SV := fun ρ => (ev ρ).bind fun c ρ1 => match ρ1[i]? with
  | some (.bor _) => .no
  | some _ => .ok .nx (ρ1.set i (.own c))
  | none => .no
theorem ownS {Dd : Ends} {H : Hp} {i : Nat} {ev : CV} {ρ : Ev} (fi : FI f G H σ ρ) (q : PostS f W G Dd (sOwn i ev ρ)) : tXF f W ev σ H (fun x H1 => Dd.nx (σ.set i (some x)) H1) := by
  refine ⟨G, ρ, fi, ?_⟩
  simp only [sOwn] at q
  cases he : ev ρ with
  | ok c ρ1 =>
    simp only [he, Re.bind] at q
    intro p o G' H' s fi' cr
    obtain ⟨a, b, z, n, e⟩ := fi'.laid
    split at q
    · exact q.elim
    · rename_i sl hs hnb
      exact q _ G' H' s (fi'.unlay.setOwn cr z (fun c' e' => by rw [e'] at hnb; cases hnb; exact absurd rfl (hs c')) n e)
    · exact q.elim
  | er e ρ1 =>
    simp only [he, Re.bind] at q
    exact fun cls dd G' H' s fi' er => q cls dd σ G' H' s fi' er
  | no => simp only [he, Re.bind] at q; exact q.elim
theorem pxs_own {i : Nat} {x : Str} {pos' : Pos} {ev : CV} (hN : X.N.Nodup) (hi : X.N[i]? = some x) (hx : Loc X.env.scope x) (h : PXF X f W e ev) (hs : swapsWith e (some (.Name x pos')) pos.line X.env = pure false := by rfl)
    (hf : X.fn x = true ∨ X.env.scope.names.lookup x = some .local := by first | exact .inl rfl | exact .inr rfl | assumption) : PXS X f W (.Assign [.Name x pos'] e pos) (sOwn i ev) :=
  PS.imp (ps_set hN hi hx h hs hf) fun Dd σ H ⟨G, ρ, fi, q⟩ => ownS fi q

/-! ### comprehensions -/
def wipeE (ρ : Ev) : List Nat → Ev
  | [] => ρ
  | v :: vs => (wipeE ρ vs).set v .no
def restE (ρ ρ0 : Ev) : List Nat → Ev
  | [] => ρ
  | v :: vs => (restE ρ ρ0 vs).set v ((ρ0[v]?).getD .no)
def noMut (ρ : Ev) (vs : List Nat) : Bool := vs.all fun v => match ρ[v]? with
  | some .no => true
  | some (.dat _) => true
  | _ => false
def lcL (t : GV) (c : BV) (e : EV) (vs : List Nat) : List D → LV
  | [] => fun ρ => .ok [] ρ
  | d :: r => fun ρ => match t d ρ with
    | .ok _ ρ1 => (c ρ1).bind fun k ρ2 => match k with
      | true => (e ρ2).bind fun y ρ3 => (lcL t c e vs r (wipeE ρ3 vs)).bind fun ys ρ4 => .ok (y :: ys) ρ4
      | false => lcL t c e vs r (wipeE ρ2 vs)
    | _ => .no
@[simp] def cLc (iv : LV) (t : GV) (c : BV) (e : EV) (vs : List Nat) : CV := fun ρ => (iv ρ).bind fun ds ρ1 => if noMut ρ1 vs = true ∧ ds.length ≤ big then (match lcL t c e vs ds (wipeE ρ1 vs) with
    | .ok ys ρ' => .ok (.lst ys) (restE ρ' ρ1 vs)
    | _ => .no) else .no
@[simp] def bYes : BV := fun ρ => .ok true ρ
theorem wipe_len (σ : L2.St) : ∀ vs : List Nat, (wipe σ vs).length = σ.length := wipe_length σ
theorem wipe_out {σ : L2.St} {j : Nat} : ∀ {vs : List Nat}, j ∉ vs → (wipe σ vs)[j]? = σ[j]?
  | [], _ => rfl
  | v :: vs, h => by
    unfold wipe
    rw [List.getElem?_set_ne (fun z => h (by rw [z]; exact List.mem_cons_self)), wipe_out fun z => h (List.mem_cons_of_mem _ z)]
theorem wipe_in {σ : L2.St} {j : Nat} : ∀ {vs : List Nat}, j ∈ vs → ∀ x, (wipe σ vs)[j]? ≠ some (some x)
  | [], h, _ => by cases h
  | v :: vs, h, x => fun e => (wipe_some (vs := v :: vs) e).2 h
theorem wipeE_len (ρ : Ev) : ∀ vs : List Nat, (wipeE ρ vs).length = ρ.length
  | [] => rfl
  | v :: vs => by unfold wipeE; rw [List.length_set, wipeE_len ρ vs]
theorem wipeE_out {ρ : Ev} {j : Nat} : ∀ {vs : List Nat}, j ∉ vs → (wipeE ρ vs)[j]? = ρ[j]?
  | [], _ => rfl
  | v :: vs, h => by
    unfold wipeE
    rw [List.getElem?_set_ne (fun z => h (by rw [z]; exact List.mem_cons_self)), wipeE_out fun z => h (List.mem_cons_of_mem _ z)]
theorem wipeE_in {ρ : Ev} {j : Nat} {s : Slot} : ∀ {vs : List Nat}, j ∈ vs → (wipeE ρ vs)[j]? = some s → s = .no
  | [], h, _ => by cases h
  | v :: vs, h, e => by
    unfold wipeE at e
    by_cases hj : v = j
    · subst hj
      have hl : v < (wipeE ρ vs).length := by have := (List.getElem?_eq_some_iff.mp e).1; simpa using this
      rw [List.getElem?_set_self hl] at e
      exact (Option.some.inj e).symm
    · rw [List.getElem?_set_ne hj] at e
      rcases List.mem_cons.mp h with z | z
      · exact absurd z.symm hj
      · exact wipeE_in z e
theorem restE_len (ρ ρ0 : Ev) : ∀ vs : List Nat, (restE ρ ρ0 vs).length = ρ.length
  | [] => rfl
  | v :: vs => by unfold restE; rw [List.length_set, restE_len ρ ρ0 vs]
theorem restE_out {ρ ρ0 : Ev} {j : Nat} : ∀ {vs : List Nat}, j ∉ vs → (restE ρ ρ0 vs)[j]? = ρ[j]?
  | [], _ => rfl
  | v :: vs, h => by
    unfold restE
    rw [List.getElem?_set_ne (fun z => h (by rw [z]; exact List.mem_cons_self)), restE_out fun z => h (List.mem_cons_of_mem _ z)]
theorem restE_in {ρ ρ0 : Ev} {j : Nat} {s : Slot} : ∀ {vs : List Nat}, j ∈ vs → (restE ρ ρ0 vs)[j]? = some s → s = (ρ0[j]?).getD .no
  | [], h, _ => by cases h
  | v :: vs, h, e => by
    unfold restE at e
    by_cases hj : v = j
    · subst hj
      have hl : v < (restE ρ ρ0 vs).length := by have := (List.getElem?_eq_some_iff.mp e).1; simpa using this
      rw [List.getElem?_set_self hl] at e
      exact (Option.some.inj e).symm
    · rw [List.getElem?_set_ne hj] at e
      rcases List.mem_cons.mp h with z | z
      · exact absurd z.symm hj
      · exact restE_in z e
theorem noMut_at {ρ : Ev} {vs : List Nat} (h : noMut ρ vs = true) {v : Nat} (hv : v ∈ vs) : ρ[v]? = some .no ∨ ∃ d, ρ[v]? = some (.dat d) := by
  have := List.all_eq_true.mp h v hv
  split at this
  · exact .inl (by assumption)
  · exact .inr ⟨_, by assumption⟩
  · cases this
end
section
variable {f f' : Fm} {G H G' H' : Hp} {σ σ' : L2.St} {ρ ρ' : Ev} {vs : List Nat}
/-- the cells that a frame was given stand in the same slots -/
theorem FI.nobor (h : FI f G H σ ρ) (h' : FI f' G' H' σ' ρ') (e : f'.ps = f.ps) (n : ∀ v ∈ vs, ∀ c, ρ[v]? ≠ some (.bor c)) : ∀ v ∈ vs, ∀ c, ρ'[v]? ≠ some (.bor c) := fun v hv c z => by
  obtain ⟨p, hp, _⟩ := h'.sl v _ z
  rw [e] at hp
  obtain ⟨c', z'⟩ := h.bo v p hp
  exact n v hv c' z'
theorem noMut_nobor (h : noMut ρ vs = true) : ∀ v ∈ vs, ∀ c, ρ[v]? ≠ some (.bor c) := fun v hv c z => by
  rcases noMut_at h hv with e | ⟨d, e⟩ <;> rw [z] at e <;> cases e
theorem FI.wipe (h : FI f G H σ ρ) (n : ∀ v ∈ vs, ∀ c, ρ[v]? ≠ some (.bor c)) : FI f G H (L2.wipe σ vs) (wipeE ρ vs) := by
  have mutOut : ∀ {j : Nat} {s : Slot}, (wipeE ρ vs)[j]? = some s → s.mut = true → j ∉ vs ∧ ρ[j]? = some s := fun {j s} e m => by
    have hj : j ∉ vs := fun z => by rw [wipeE_in z e] at m; cases m
    exact ⟨hj, by rw [← wipeE_out hj]; exact e⟩
  refine ⟨h.gh, h.gr, by rw [wipe_len, wipeE_len, h.len], fun j s e => ?_, fun i j s t p e1 e2 m1 m2 a1 a2 => ?_, fun k p e => ?_, fun q hq => ?_, h.np⟩
  · by_cases hj : j ∈ vs
    · rw [wipeE_in hj e]; trivial
    · rw [wipeE_out hj] at e
      have q := h.sl j s e
      cases s with
      | no => trivial
      | dat d => obtain ⟨v, a, r⟩ := q; exact ⟨v, by rw [wipe_out hj]; exact a, r⟩
      | own c => obtain ⟨p, a, r⟩ := q; exact ⟨p, by rw [wipe_out hj]; exact a, r⟩
      | bor c => obtain ⟨p, z, a, r⟩ := q; exact ⟨p, z, by rw [wipe_out hj]; exact a, r⟩
  · obtain ⟨n1, b1⟩ := mutOut e1 m1
    obtain ⟨n2, b2⟩ := mutOut e2 m2
    rw [wipe_out n1] at a1
    rw [wipe_out n2] at a2
    exact h.ap i j s t p b1 b2 m1 m2 a1 a2
  · obtain ⟨c, z⟩ := h.bo k p e
    exact ⟨c, by rw [wipeE_out fun hk => n k hk c z]; exact z⟩
  · obtain ⟨a, b, c, d⟩ := h.pr q hq
    exact ⟨a, b, c, fun i s e m => by
      obtain ⟨n1, b1⟩ := mutOut e m
      rw [wipe_out n1]
      exact d i s b1 m⟩
theorem FI.unwipe (h : FI f' G' H' (L2.wipe σ vs) ρ') (h0 : FI f G H σ ρ) (eg : f'.g = f.g) (ep : f'.ps = f.ps) (s : Same G G') (n : noMut ρ vs = true) : FI f' G' H' σ (restE ρ' ρ vs) := by
  have mutOut : ∀ {j : Nat} {s : Slot}, (restE ρ' ρ vs)[j]? = some s → s.mut = true → j ∉ vs ∧ ρ'[j]? = some s := fun {j s} e m => by
    have hj : j ∉ vs := fun z => by
      rw [restE_in z e] at m
      rcases noMut_at n z with e' | ⟨d, e'⟩ <;> rw [e'] at m <;> cases m
    exact ⟨hj, by rw [← restE_out (ρ := ρ') (ρ0 := ρ) hj]; exact e⟩
  refine ⟨h.gh, h.gr, by rw [restE_len, ← h.len, wipe_len], fun j t e => ?_, fun i j s t p e1 e2 m1 m2 a1 a2 => ?_, fun k p e => ?_, fun q hq => ?_, h.np⟩
  · by_cases hj : j ∈ vs
    · have et := restE_in hj e
      subst et
      rcases noMut_at n hj with e' | ⟨d, e'⟩
      · rw [e']; trivial
      · rw [e']
        obtain ⟨v, a, r⟩ := h0.sl j _ e'
        exact ⟨v, a, by rw [eg]; exact r.up s⟩
    · rw [restE_out hj] at e
      have q := h.sl j t e
      cases t with
      | no => trivial
      | dat d => obtain ⟨v, a, r⟩ := q; exact ⟨v, by rw [← wipe_out hj]; exact a, r⟩
      | own c => obtain ⟨p, a, r⟩ := q; exact ⟨p, by rw [← wipe_out hj]; exact a, r⟩
      | bor c => obtain ⟨p, z, a, r⟩ := q; exact ⟨p, z, by rw [← wipe_out hj]; exact a, r⟩
  · obtain ⟨n1, b1⟩ := mutOut e1 m1
    obtain ⟨n2, b2⟩ := mutOut e2 m2
    rw [← wipe_out n1] at a1
    rw [← wipe_out n2] at a2
    exact h.ap i j s t p b1 b2 m1 m2 a1 a2
  · obtain ⟨c, z⟩ := h.bo k p e
    have hk : k ∉ vs := fun hk => by
      rw [ep] at e
      obtain ⟨c', z'⟩ := h0.bo k p e
      exact noMut_nobor n k hk c' z'
    exact ⟨c, by rw [restE_out hk]; exact z⟩
  · obtain ⟨a, b, c, d⟩ := h.pr q hq
    exact ⟨a, b, c, fun i s e m => by
      obtain ⟨n1, b1⟩ := mutOut e m
      rw [← wipe_out n1]
      exact d i s b1 m⟩
theorem wipe_eq (hk : ∀ j, j ∉ vs → σ'[j]? = (L2.wipe σ vs)[j]?) (hl : σ'.length = (L2.wipe σ vs).length) : L2.wipe σ' vs = L2.wipe σ vs := by
  apply List.ext_getElem?
  intro j
  by_cases hj : j ∈ vs
  · have a : ∀ {τ : L2.St}, τ.length = (L2.wipe σ vs).length → (L2.wipe τ vs)[j]? = if j < τ.length then some none else none := fun {τ} _ => by
      by_cases hlt : j < τ.length
      · have h2 : j < (L2.wipe τ vs).length := by rw [wipe_len]; exact hlt
        rw [if_pos hlt, List.getElem?_eq_getElem h2]
        cases e : (L2.wipe τ vs)[j] with
        | none => rfl
        | some x => exact absurd (by rw [List.getElem?_eq_getElem h2, e]) (wipe_in hj x)
      · rw [if_neg hlt, List.getElem?_eq_none (by rw [wipe_len]; omega)]
    rw [a hl, a (wipe_len σ vs).symm, hl, wipe_len]
  · rw [wipe_out hj, hk j hj]
end
abbrev W0 : WX := fun _ _ _ _ => False
section
variable {X : Cx} {f : Fm} {W : WX}
theorem PG.ex {e : Expr} {T : List (Addr × HO) → TG} (h : ∀ pr, PG X e (T pr)) : PG X e (fun v σ H Q => ∃ pr, T pr v σ H Q) := ⟨fun pins s σ H v u Q I r ⟨pr, q⟩ => (h pr).run pins s σ H v u Q I r q⟩
theorem PTs.ex {e : List Expr} {T : List (Addr × HO) → TT} (h : ∀ pr, PTs X e (T pr)) : PTs X e (fun σ H Q => ∃ pr, T pr σ H Q) := ⟨fun pins s σ H Q I ⟨pr, q⟩ => (h pr).run pins s σ H Q I q⟩
theorem PE.ex {e : Expr} {T : List (Addr × HO) → TE} (h : ∀ pr, PE X e (T pr)) : PE X e (fun σ H Q => ∃ pr, T pr σ H Q) := ⟨fun pins s σ H Q I ⟨pr, q⟩ => (h pr).run pins s σ H Q I q⟩
abbrev PXTs (X : Cx) (f : Fm) (W : WX) (es : List Expr) (c : BV) : Prop := PTs X es (tXB f W c)
theorem pxt_nil : PXTs X f W [] bYes := ⟨fun pins s σ H Q I ⟨G, ρ, fi, q⟩ => pts_nil.run pins s σ H Q I (q G H same_rfl fi)⟩
theorem pxt_one {e : Expr} {c : BV} (h : PXB X f W e c) : PXTs X f W [e] c := pts_one h
theorem lcS {vs ts : List Nat} {σ : L2.St} {H1 G1 : Hp} {ρ1 : Ev} {iv : LV} {t : GV} {c : BV} {e : EV} {ds : List D} {J : It} {Q : VK} {D : Addr} (hts : ∀ j ∈ ts, j ∈ vs) (fi1 : FI f G1 H1 σ ρ1) (hD : H1 D = none) (hJ : IterOk f.g G1 J ds)
    (q1 : PostF f W σ G1 Q (if noMut ρ1 vs = true ∧ ds.length ≤ big then (match lcL t c e vs ds (wipeE ρ1 vs) with
    | .ok ys ρ' => .ok (.lst ys) (restE ρ' ρ1 vs)
    | _ => .no) else .no)) : ∃ W : Nat → Nat → Hp → Prop, (∃ m, W 0 m (upd H1 D (.lst []))) ∧ ∀ i m H, W i m H →
      (J.stop i H ∧ Q (.ref D) H) ∨ (J.go i H ∧ ∃ Nx : Hp → Prop, (∀ H', Nx H' → ∃ m', m' < m ∧ W (i + 1) m' H') ∧ ∀ x H', J.yld i H x H' → (fun v σ H Q => ∃ pr, tXG (f.at pr) ts t v σ H Q) x (L2.wipe σ vs) H' fun σ2 H2 => L2.wipe σ2 vs = L2.wipe σ vs ∧ (fun σ H Q => ∃ pr, tXB (f.at pr) W0 c σ H Q) σ2 H2 fun b H3 =>
        if b = true then (fun σ H Q => ∃ pr, tX (f.at pr) W0 e σ H Q) σ2 H3 fun y H4 => ∃ acc, H4 D = some (.lst acc) ∧ acc.length < sizeLine ∧ Nx (upd H4 D (.lst (acc ++ [y]))) else Nx H3) := by
  split at q1
  · rename_i hb
    obtain ⟨nm, hlen⟩ := hb
    obtain ⟨Gd, Y, w, gd, yy⟩ := hJ
    have nb := noMut_nobor nm
    cases hL : lcL t c e vs ds (wipeE ρ1 vs) with
    | er e ρ => rw [hL] at q1; exact q1.elim
    | no => rw [hL] at q1; exact q1.elim
    | ok ys ρ' =>
      rw [hL] at q1
      refine lc_it (g := fun v σ H Q => ∃ pr, tXG (f.at pr) ts t v σ H Q) (tt := fun σ H Q => ∃ pr, tXB (f.at pr) W0 c σ H Q) (te := fun σ H Q => ∃ pr, tX (f.at pr) W0 e σ H Q) (vs := vs) (σ := σ) (Qd := fun H => Q (.ref D) H) w (fun i H => ∃ G ρi acc as r, FI (f.add D (.lst acc)) G H (L2.wipe σ vs) ρi ∧ Same G1 G ∧ RpL f.g G acc as ∧ as.length ≤ i ∧ lcL t c e vs (ds.drop i) ρi = .ok r ρ' ∧ as ++ r = ys)
        ⟨G1, wipeE ρ1 vs, [], [], ys, (fi1.wipe nb).lay hD, same_rfl, .nil, Nat.le_refl _, by simpa using hL, rfl⟩ (fun i H _ ⟨G, ρi, acc, as, r, fi, s, _⟩ => gd G H s fi.gh) (fun i x H H' hi ⟨G, ρi, acc, as, r, fi, s, rl, hn, hl, he⟩ y => ?_) fun H ⟨G, ρi, acc, as, r, fi, s, rl, hn, hl, he⟩ => ?_
      · obtain ⟨G3, d, ext, hd, rp⟩ := yy i H x H' y G s fi.gh
        rw [List.drop_eq_getElem_cons hi, show ds[i] = d by rw [List.getElem?_eq_getElem hi] at hd; exact Option.some.inj hd] at hl
        unfold lcL at hl
        have fi' := fi.ext ext
        cases ht : t d ρi with
        | er e ρ => rw [ht] at hl; cases hl
        | no => rw [ht] at hl; cases hl
        | ok a ρa =>
          simp only [ht] at hl
          refine ⟨(D, .lst acc) :: f.pr, G3, ρi, d, fi', rp, ?_⟩
          rw [ht]
          refine fun σ2 G4 H4 s4 fi4 kj ll => ?_
          have we : L2.wipe σ2 vs = L2.wipe σ vs := wipe_eq (fun j hj => kj j fun z => hj (hts j z)) ll
          have nbr : ∀ {G5 H5 : Hp} {ρ5 : Ev}, FI (f.add D (.lst acc)) G5 H5 σ2 ρ5 → ∀ v ∈ vs, ∀ c, ρ5[v]? ≠ some (.bor c) := fun fi5 => FI.nobor fi1 fi5 rfl nb
          refine ⟨we, (D, .lst acc) :: f.pr, G4, ρa, fi4, ?_⟩
          cases hc : c ρa with
          | er e ρ => simp only [hc, Re.bind] at hl; cases hl
          | no => simp only [hc, Re.bind] at hl; cases hl
          | ok k ρb =>
            simp only [hc, Re.bind] at hl
            intro G5 H5 s5 fi5
            have s15 : Same G1 G5 := same_trans s (same_trans ext.g (same_trans s4 s5))
            cases k with
            | false =>
              dsimp only at hl ⊢
              rw [if_neg Bool.false_ne_true]
              have := fi5.wipe (nbr fi5)
              rw [we] at this
              exact ⟨G5, _, acc, as, r, this, s15, ((rl.up ext.g).up s4).up s5, Nat.le_succ_of_le hn, hl, he⟩
            | true =>
              dsimp only at hl ⊢
              rw [if_pos rfl]
              refine ⟨(D, .lst acc) :: f.pr, G5, ρb, fi5, ?_⟩
              cases hE : e ρb with
              | er e ρ => simp only [hE] at hl; cases hl
              | no => simp only [hE] at hl; cases hl
              | ok yd ρc =>
                simp only [hE] at hl
                intro G6 H6 s6 fi6 v rv
                cases hR : lcL t c e vs (ds.drop (i + 1)) (wipeE ρc vs) with
                | er e ρ => simp only [hR] at hl; cases hl
                | no => simp only [hR] at hl; cases hl
                | ok zs ρz =>
                  simp only [hR] at hl
                  cases hl
                  have := (fi6.wipe (nbr fi6)).relay (o' := .lst (acc ++ [v])) (fun q z => nomatch z)
                  rw [we] at this
                  have rl6 := (((rl.up ext.g).up s4).up s5).up s6
                  refine ⟨acc, fi6.laid.1, ?_, G6, _, acc ++ [v], as ++ [yd], zs, this, same_trans s15 s6, rl6.app (.cons rv .nil), by rw [List.length_append]; simpa using hn, hR, by rw [List.append_assoc]; exact he⟩
                  rw [rl6.len]
                  have : i < big := Nat.lt_of_lt_of_le hi hlen
                  exact Nat.lt_of_lt_of_le (Nat.lt_of_le_of_lt hn this) big_le
      · rw [List.drop_length] at hl
        unfold lcL at hl
        cases hl
        rw [List.append_nil] at he
        subst he
        exact q1 D _ G H s (FI.unwipe fi fi1 rfl rfl s nm) ⟨fi.laid.2.1, Nat.le_trans hn hlen, acc, fi.laid.1, rl⟩
  · exact q1.elim
theorem pxf_lc {elt tg iter : Expr} {ifs : List Expr} {scope : Scope} {own : List (Str × Nat)} {pos : Pos} {iv : LV} {t : GV} {c : BV} {e : EV} {ts : List Nat} (hc : X.calm = true) (hN : X.N.Nodup) (hi : PXI X f W tg iter iv) (ok : BlkOk X.N X.env.scope scope own)
    (hts : ∀ j ∈ ts, j ∈ own.map (·.2)) (hg : ∀ (s : Shared) (H : Hp) (C : Addr) (cl : List (Str × Addr)) (fp : List Addr) (pr : List (Addr × HO)), PXG (X.blk s H scope (compEnvC scope cl C X.env) fp) (f.at pr) tg ts t)
    (ht : ∀ (s : Shared) (H : Hp) (C : Addr) (cl : List (Str × Addr)) (fp : List Addr) (pr : List (Addr × HO)), PXTs (X.blk s H scope (compEnvC scope cl C X.env) fp) (f.at pr) W0 ifs c)
    (he : ∀ (s : Shared) (H : Hp) (C : Addr) (cl : List (Str × Addr)) (fp : List Addr) (pr : List (Addr × HO)), PX (X.blk s H scope (compEnvC scope cl C X.env) fp) (f.at pr) W0 elt e) (hs : ∀ x, foldedSetIterable iter X.env x = pure x := by intro _; rfl) :
    PXF X f W (.ListComp elt [⟨tg, iter, ifs, 0⟩] scope pos) (cLc iv t c e (own.map (·.2))) :=
  PE.imp (pe_lc hc hN hi ok (fun s H C cl fp => PG.ex (hg s H C cl fp)) (fun s H C cl fp => PTs.ex (ht s H C cl fp)) (fun s H C cl fp => PE.ex (he s H C cl fp)) hs) fun σ H Q ⟨G, ρ, fi, q⟩ =>
    ⟨G, ρ, fi, PostF.bindX q fun ds ρ1 G1 H1 s1 fi1 q1 J hJ D hD => lcS (iv := iv) hts fi1 hD hJ q1⟩
/-- name = [..] on one row -/
theorem pxs_ownLc {i : Nat} {y : Str} {py : Pos} {elt tg iter : Expr} {ifs : List Expr} {scope : Scope} {own : List (Str × Nat)} {pos spos : Pos} {iv : LV} {t : GV} {c : BV} {e : EV} {ts : List Nat} (hc : X.calm = true) (hN : X.N.Nodup) (hy : X.N[i]? = some y) (hyl : X.env.scope.names.lookup y = some .local)
    (hsw : swapsWith (.ListComp elt [⟨tg, iter, ifs, 0⟩] scope pos) (some (.Name y py)) spos.line X.env = pure true) (hi : PXI X f W tg iter iv) (ok : BlkOk X.N X.env.scope scope own)
    (hts : ∀ j ∈ ts, j ∈ own.map (·.2)) (hg : ∀ (s : Shared) (H : Hp) (C : Addr) (cl : List (Str × Addr)) (fp : List Addr) (pr : List (Addr × HO)), PXG (X.blk s H scope (compEnvC scope cl C X.env) fp) (f.at pr) tg ts t)
    (ht : ∀ (s : Shared) (H : Hp) (C : Addr) (cl : List (Str × Addr)) (fp : List Addr) (pr : List (Addr × HO)), PXTs (X.blk s H scope (compEnvC scope cl C X.env) fp) (f.at pr) W0 ifs c)
    (he : ∀ (s : Shared) (H : Hp) (C : Addr) (cl : List (Str × Addr)) (fp : List Addr) (pr : List (Addr × HO)), PX (X.blk s H scope (compEnvC scope cl C X.env) fp) (f.at pr) W0 elt e) (hs : ∀ x, foldedSetIterable iter X.env x = pure x := by intro _; rfl) :
    PXS X f W (.Assign [.Name y py] (.ListComp elt [⟨tg, iter, ifs, 0⟩] scope pos) spos) (sOwn i (cLc iv t c e (own.map (·.2)))) :=
  PS.imp (ps_setLc hc hN hy hyl hsw hi ok (fun s H C cl fp => PG.ex (hg s H C cl fp)) (fun s H C cl fp => PTs.ex (ht s H C cl fp)) (fun s H C cl fp => PE.ex (he s H C cl fp)) hs) fun Dd σ H ⟨G, ρ, fi, q⟩ => by
    obtain ⟨G2, ρ2, fi2, q2⟩ := ownS fi q
    exact ⟨G2, ρ2, fi2, PostF.bindX q2 fun ds ρ1 G1 H1 s1 fi1 q1 J hJ D hD => lcS (iv := iv) hts fi1 hD hJ q1⟩
end
end Dx

set_option Elab.async false
set_option linter.all false
set_option maxRecDepth 100000
set_option maxHeartbeats 4000000
/-! the data layer: defs, calls, raise -/
namespace Dx
open PySem PySem.Spec PyProof.Rows L2 Gd

/-! ### a def as a function -/
inductive FR where
  | ok (d : D) (cs : List Cell) | er (e : Er) (cs : List Cell) | no
  /-- a new cell is returned -/
  | okc (c : Cell) (cs : List Cell)
/-- the cells that are lent, the other arguments -/
abbrev Fn := List Cell → List D → FR
def Slot.lent : Slot → Option Cell
  | .bor c => some c
  | _ => none
def bors (nb : Nat) (ρ : Ev) : List Cell := (ρ.take nb).filterMap Slot.lent
def start0 (n np : Nat) (cs : List Cell) (ds : List D) : Ev := cs.map .bor ++ (ds.map .dat ++ List.replicate (n - np) .no)
def endB (nb : Nat) : Re Fl → FR
  | .ok .nx ρ => .ok .non (bors nb ρ)
  | .ok (.rt d) ρ => .ok d (bors nb ρ)
  | .ok (.rc c) ρ => .okc c (bors nb ρ)
  | .er e ρ => .er e (bors nb ρ)
  | _ => .no
def fnB (n nb np : Nat) (body : SV) : Fn := fun cs ds => if cs.length = nb ∧ nb + ds.length = np then endB nb (body (start0 n np cs ds)) else .no
abbrev CellsR (g : Gm) (G H : Hp) : List Addr → List Cell → Prop := Paired (CellR g G H)
def PostR (g : Gm) (ps : List Addr) (G H : Hp) (Q : VK) (E : XK) : FR → Prop
  | .ok d cs' => ∀ v G' H', Grow ps G H G' H' → Same G' H' → CellsR g G' H' ps cs' → Rp g G' v d → Q v H'
  | .er e cs' => ∀ cls dd G' H', Grow ps G H G' H' → Same G' H' → CellsR g G' H' ps cs' → ErR g G' cls dd e → E cls dd H'
  | .okc c cs' => ∀ p G' H', Grow ps G H G' H' → Same G' H' → CellsR g G' H' ps cs' → CellR g G' H' p c → H p = none → Q (.ref p) H'
  | .no => False
def spF (g : Gm) (nb np : Nat) (m : Fn) : Sp := fun vs H Q E => vs.length = np ∧ ∃ G ps cs xs ds, vs = ps.map V.ref ++ xs ∧ ps.length = nb ∧ ps.Nodup ∧ Same G H ∧ CellsR g G H ps cs ∧ RpL g G xs ds ∧ PostR g ps G H Q E (m cs ds)
theorem paired_len {α β : Type} {F : α → β → Prop} {l : List α} {m : List β} (h : Paired F l m) : l.length = m.length := Paired.length h
theorem paired_get {α β : Type} {F : α → β → Prop} : ∀ {l : List α} {m : List β} {i : Nat} {a : α}, Paired F l m → l[i]? = some a → ∃ b, m[i]? = some b ∧ F a b
  | _, _, _, _, .nil, e => by simp at e
  | _, _, 0, _, .cons r _, e => by simp at e; subst e; exact ⟨_, rfl, r⟩
  | _, _, i + 1, a, .cons _ t, e => by
    obtain ⟨b, h1, h2⟩ := paired_get (i := i) t (by simpa using e)
    exact ⟨b, by simpa using h1, h2⟩
section
variable {f : Fm} {G H : Hp} {σ : L2.St} {ρ : Ev}
/-- the lent cells behind the body -/
theorem bors_ok : ∀ (ps : List Addr) (ρ : Ev), (∀ (k : Nat) (p : Addr), ps[k]? = some p → ∃ c, ρ[k]? = some (Slot.bor c) ∧ CellR f.g G H p c) → CellsR f.g G H ps (bors ps.length ρ)
  | [], ρ, _ => by simp [bors]; exact .nil
  | p :: ps, [], h => by obtain ⟨c, e, _⟩ := h 0 p rfl; simp at e
  | p :: ps, s :: ρ, h => by
    obtain ⟨c, e, r⟩ := h 0 p rfl
    have e' : s = .bor c := by simpa using e
    subst e'
    have ih := bors_ok ps ρ fun k q hk => h (k + 1) q hk
    unfold bors
    rw [List.length_cons, List.take_succ_cons, List.filterMap_cons]
    exact .cons r ih
theorem FI.lent (h : FI f G H σ ρ) : CellsR f.g G H f.ps (bors f.ps.length ρ) := bors_ok f.ps ρ fun k p hk => by
  obtain ⟨c, e⟩ := h.bo k p hk
  obtain ⟨q, e1, _, r⟩ := h.sl k _ e
  rw [hk] at e1; cases e1
  exact ⟨c, e, r⟩
theorem FI.start {g : Gm} {ps : List Addr} {cs : List Cell} {xs : List V} {ds : List D} {N : List Str} {np : Nat} (sg : Same G H) (nd : ps.Nodup) (cr : CellsR g G H ps cs) (r : RpL g G xs ds) (hnp : ps.length + xs.length = np) (hN : np ≤ N.length) :
    FI ⟨g, ps, G, H, []⟩ G H (L2.start N (ps.map V.ref ++ xs)) (start0 N.length np cs ds) := by
  have lc : ps.length = cs.length := paired_len cr
  have lx : xs.length = ds.length := r.len
  have σ1 : ∀ {k : Nat} {p : Addr}, ps[k]? = some p → (L2.start N (ps.map V.ref ++ xs))[k]? = some (some (V.ref p)) := fun {k p} e => by
    have hk := (List.getElem?_eq_some_iff.mp e).1
    unfold L2.start
    rw [List.getElem?_append_left (by simp; omega), List.map_append, List.getElem?_append_left (by simp; omega)]
    simp [e]
  have σ2 : ∀ {k : Nat} {x : V}, xs[k]? = some x → (L2.start N (ps.map V.ref ++ xs))[ps.length + k]? = some (some x) := fun {k x} e => by
    have hk := (List.getElem?_eq_some_iff.mp e).1
    unfold L2.start
    rw [List.getElem?_append_left (by simp; omega), List.map_append, List.getElem?_append_right (by simp)]
    simp [e]
  have sl1 : ∀ {k : Nat} {s : Slot}, (start0 N.length np cs ds)[k]? = some s → (∃ p c, ps[k]? = some p ∧ cs[k]? = some c ∧ s = .bor c ∧ CellR g G H p c) ∨ (∃ j d x, k = ps.length + j ∧ s = .dat d ∧ xs[j]? = some x ∧ Rp g G x d) ∨ s = .no := fun {k s} e => by
    unfold start0 at e
    by_cases h1 : k < cs.length
    · rw [List.getElem?_append_left (by simpa using h1)] at e
      have hp : k < ps.length := by omega
      obtain ⟨c, hc, rc⟩ := paired_get cr (List.getElem?_eq_getElem hp)
      rw [List.getElem?_map, hc] at e
      cases e
      exact .inl ⟨_, c, List.getElem?_eq_getElem hp, hc, rfl, rc⟩
    · rw [List.getElem?_append_right (by simpa using h1), List.length_map] at e
      by_cases h2 : k - cs.length < ds.length
      · rw [List.getElem?_append_left (by simpa using h2), List.getElem?_map] at e
        obtain ⟨d, hd, rfl⟩ := Option.map_eq_some_iff.mp e
        obtain ⟨x, hx, rx⟩ := r.getD hd
        exact .inr (.inl ⟨k - cs.length, d, x, by omega, rfl, hx, rx⟩)
      · rw [List.getElem?_append_right (by simpa using h2), List.getElem?_replicate] at e
        split at e
        · cases e; exact .inr (.inr rfl)
        · cases e
  refine ⟨sg, ⟨same_rfl, fun _ _ _ e => e, fun _ _ => rfl⟩, ?_, fun i s e => ?_, fun i j s t p e1 e2 m1 m2 a1 a2 => ?_, fun k p e => ?_, fun q hq => absurd hq (by simp), by simp⟩
  · unfold L2.start start0
    simp
    omega
  · rcases sl1 e with ⟨p, c, h1, h2, rfl, h3⟩ | ⟨j, d, x, rfl, rfl, h1, h2⟩ | rfl
    · exact ⟨p, h1, σ1 h1, h3⟩
    · exact ⟨x, σ2 h1, h2⟩
    · trivial
  · rcases sl1 e1 with ⟨p1, c1, h1, h2, rfl, h3⟩ | ⟨_, _, _, _, rfl, _⟩ | rfl
    · rcases sl1 e2 with ⟨p2, c2, k1, k2, rfl, k3⟩ | ⟨_, _, _, _, rfl, _⟩ | rfl
      · rw [σ1 h1] at a1; cases a1
        rw [σ1 k1] at a2; cases a2
        obtain ⟨i1, i2⟩ := List.getElem?_eq_some_iff.mp h1
        obtain ⟨j1, j2⟩ := List.getElem?_eq_some_iff.mp k1
        exact (List.getElem_inj nd).mp (i2.trans j2.symm)
      · cases m2
      · cases m2
    · cases m1
    · cases m1
  · obtain ⟨c, hc, _⟩ := paired_get cr e
    have hk := (List.getElem?_eq_some_iff.mp hc).1
    refine ⟨c, ?_⟩
    unfold start0
    rw [List.getElem?_append_left (by simpa using hk), List.getElem?_map, hc]
    rfl
end
/-- room for k calls; if b: no built-in that watches for itself runs around -/
structure Rb (b : Bool) (k : Nat) (A : Around) : Prop where
  rm : Room k A
  gd : b = true → A.guards = some []
theorem Rb.mono {b c : Bool} {j k : Nat} {A : Around} (r : Rb b j A) (h : k ≤ j) (hc : c = true → b = true := by decide) : Rb c k A := ⟨r.rm.mono h, fun z => r.gd (hc z)⟩
theorem Rb.units {b : Bool} {k : Nat} {A : Around} (r : Rb b k A) : A.units + 64 < cLine := r.rm.units
abbrev SpK := List V → List V → Hp → VK → XK → Prop
/-- a def, called with positional values and the keywords ks, where no guard runs around -/
def FnG (P : Program) (w : World) (K : PySem.W.Frag) (mg : Str → Option Value) (base : Heap) (b : Bool) (k : Nat) (f : Addr) (ks : List Str) (sp : SpK) : Prop :=
  ∀ (A : Around) (outer : List Env) (s : Shared) (H : Hp) (us ws : List Value) (vs zs : List V) (Q : VK) (E : XK), Rb b k A → Env0 P w K mg base A outer s H → Vals vs us → Vals zs ws → zs.length = ks.length → sp vs zs H Q E →
    codeAny (model P w) A (.call (.ref f) ⟨us, ks.zip ws⟩) (CR (L2.CX P w) outer P w H s Q E) s
section
variable {X : Cx} {W : WX} {b : Bool} {k : Nat} {ks : List Str} {x : Str} {es : List Expr} {e : Expr} {p pos : Pos} {t : TA}
theorem run_fng {pins : List (Addr × Obj)} {σ : L2.St} {H : Hp} {s : Shared} {Q : VK} {us ws : List Value} {vs zs : List V} {fa : Addr} {sp : SpK} {E : L2.St → XK} (F : FnG X.prog X.w X.K X.mg X.base b k fa ks sp) (hr : Rb b k X.A) (hx : PassesAt (L2.CX X.prog X.w) X σ (E σ))
    (I : Inv X pins σ H s) (r : Vals vs us) (rz : Vals zs ws) (hl : zs.length = ks.length) (h : sp vs zs H Q (E σ)) : wpAny (model X.prog X.w) X.A (call (.ref fa) us (ks.zip ws)) (EP X pins σ Q) X.xe s := by
  refine wpAny_call (codeAny_mono (F X.A X.stack s H us ws vs zs Q (E σ) hr I.env0 r rz hl h) fun r s' hq => ?_)
  cases r with
  | error e => exact hx pins H s e s' I hq
  | ok fl =>
    cases fl with
    | ret u => exact I.after hq
    | next => exact False.elim hq
    | brk => exact False.elim hq
    | cont => exact False.elim hq
theorem pe_callF {fa : Addr} {sp : SpK} {E : L2.St → XK} (F : FnG X.prog X.w X.K X.mg X.base b k fa [] sp) (hr : Rb b k X.A) (hg : Gl X x) (hm : X.mg x = some (.ref fa)) (hk : PySem.W.keepIn X.K (.ref fa) = true) (hx : ∀ σ, PassesAt (L2.CX X.prog X.w) X σ (E σ)) (ha : PA X (e :: es) t)
    (hdb : (x == ("__debug__" : Str)) = false := by decide) (he : starEach (e :: es) X.env = (false, eval e X.env) :: starEach es X.env := by rfl) (hpl : (backTo pos (starEach es X.env)).any (·.1) = false := by rfl) :
    PE X (.Call (.Name x p) (e :: es) [] pos) (tCallS (fun vs => sp vs []) E t) := by
  refine ⟨fun pins s σ H Q I h => ?_⟩
  refine wpAny_Call_Name_kw (ld_glob I hg hm ?_ hdb)
  refine PySem.W.callWith_K (h₀ := X.base) I.ok.mod.kin hk (thn (ha.run pos pins s σ H _ I h) fun us s1 ⟨vs, H1, I1, r, q⟩ => ⟨I1.kIn, ?_⟩) he hpl
  exact run_fng (ks := []) (ws := []) (zs := []) F hr (hx σ) I1 r .nil rfl q
end
section
variable {P : Program} {w : World} {K : PySem.W.Frag} {mg : Str → Option Value} {base : Heap}
/-- the body of a def whose locals are N -/
abbrev BodyX (P : Program) (w : World) (K : PySem.W.Frag) (mg : Str → Option Value) (base : Heap) (b : Bool) (k : Nat) (N : List Str) (qual : Str) (scope : Scope) (f : Addr) (body : List Stmt) (sv : SV) : Prop :=
  ∀ (cdv : Value) (A : Around) (outer : List Env) (s : Shared) (H : Hp) (E : XK), Rb b k (A.deeper (envOfC qual scope s.heap.objs.size f cdv)) → ∀ (ps : List Addr) (G0 H0 : Hp) (pr : List (Addr × HO)),
      PXSs (cxOf (L2.CX P w) P w K mg base N qual scope f cdv A outer s H E) ⟨⟨K, mg⟩, ps, G0, H0, pr⟩ (fun cls d _ H => E cls d H) body sv
theorem body_run {b : Bool} {k : Nat} {f : Addr} {qual : Str} {scope : Scope} {body : List Stmt} {sv : SV} {N prm : List Str} {nb : Nat} (S : FnScope N prm scope) (B : BodyX P w K mg base b k N qual scope f body sv) {cdv : Value} {A : Around} {outer : List Env} {s : Shared} {H : Hp} {E : XK} (hr : Rb b k (A.deeper (envOfC qual scope s.heap.objs.size f cdv))) {Q : VK} {H2 G2 : Hp}
    {ps : List Addr} {cs : List Cell} {xs : List V} {ds : List D} (hnb : ps.length = nb) (np : ps.Nodup) (sg : Same G2 H2) (cr : CellsR ⟨K, mg⟩ G2 H2 ps cs) (r : RpL ⟨K, mg⟩ G2 xs ds) (hl : nb + ds.length = prm.length) (h : PostR ⟨K, mg⟩ ps G2 H2 Q E (fnB N.length nb prm.length sv cs ds)) :
    ∃ t, PSs (cxOf (L2.CX P w) P w K mg base N qual scope f cdv A outer s H E) body t ∧ t { nx := fun _ H' => Q .non H', rt := Q } (start N (ps.map V.ref ++ xs)) H2 := by
  have hpl : prm.length ≤ N.length := by have := congrArg List.length S.pre; rw [List.length_take] at this; omega
  refine ⟨_, B cdv A outer s H E hr ps G2 H2 [], ?_⟩
  have lc := paired_len cr
  have lx := r.len
  have fi := FI.start (N := N) (np := prm.length) sg np cr r (by omega) hpl
  refine ⟨G2, _, fi, ?_⟩
  unfold fnB at h
  rw [if_pos ⟨by omega, by omega⟩] at h
  cases hb : sv (start0 N.length prm.length cs ds) with
  | ok fl ρ =>
    rw [hb] at h
    cases fl with
    | nx => exact fun σ' G' H' s' fi' => h _ G' H' fi'.gr fi'.gh (by rw [← hnb]; exact fi'.lent) .non
    | rt d => exact fun σ' G' H' s' fi' v rv => h _ G' H' fi'.gr fi'.gh (by rw [← hnb]; exact fi'.lent) rv
    | rc c => exact fun σ' G' H' s' fi' p cp h0 => h p G' H' fi'.gr fi'.gh (by rw [← hnb]; exact fi'.lent) cp h0
    | bk => exact h.elim
    | ct => exact h.elim
  | er e ρ =>
    rw [hb] at h
    exact fun cls dd σ' G' H' s' fi' er => h cls dd G' H' fi'.gr fi'.gh (by rw [← hnb]; exact fi'.lent) er
  | no => rw [hb] at h; exact h.elim
/-- a def with positions alone -/
theorem fnx {nm ql : Str} {st : Stmt} {fa : Addr} {fd : FuncData} {N prm : List Str} {b : Bool} {k nb : Nat} {sv : SV} (F : Fun K nm ql st fa fd) (S : FnScope N prm (defScope st))
    (hb : ∀ (kV doc pm : Value) (an : Option Addr) (cdv ct : Value) (us : List Value), us.length = prm.length → bindArgs (PySem.W.fnOf nm ql (defArgs st) (defBody st) (defScope st) .none kV doc pm an cdv ct) ⟨us, []⟩ = pure (prm.zip us))
    (body : BodyX P w K mg base b k N ql (defScope st) fa (defBody st) sv) :
    FnG P w K mg base b (k + 1) fa [] (fun vs _ => spF ⟨K, mg⟩ nb prm.length (fnB N.length nb prm.length sv) vs) := by
  obtain ⟨oc, od, kV, doc, pm, an, cdv, ct, osl, rfl, lk, hcd⟩ := F.ex
  intro A outer s H us ws vs zs Q E hr e0 r rz hzl ⟨hl, G, ps, cs, xs, ds, ev, hnb, nd, sg, cr, rp, post⟩
  refine StX.run_bnd (CX := L2.CX P w) lk hcd S hr.rm e0 (G := fun ys H2 => ys = vs ∧ H2 = H) (fun A' Ex Q' h => ?_) fun s2 H2 ys ⟨h2, h3⟩ hr' => ?_
  · rw [show (⟨us, ([] : List Str).zip ws⟩ : Args) = ⟨us, []⟩ from rfl, hb kV doc pm an cdv ct us (by rw [← r.length]; exact hl)]
    exact wpAny_pure (h s H vs us e0 Un.refl rfl (fun e s' z => z) r hl ⟨rfl, rfl⟩)
  · subst h2 h3 ev
    have lx := rp.len
    have lc := paired_len cr
    exact body_run S body ⟨hr', hr.gd⟩ hnb nd sg cr rp (by rw [List.length_append, List.length_map] at hl; omega) post
/-- a def of the top as a function -/
def CalX (P : Program) (w : World) (K : PySem.W.Frag) (mg : Str → Option Value) (base : Heap) (x : Str) (b : Bool) (k nb : Nat) (prm : List Str) (m : Fn) : Prop :=
  ∃ fa, FnG P w K mg base b k fa [] (fun vs _ => spF ⟨K, mg⟩ nb prm.length m vs) ∧ mg x = some (.ref fa) ∧ PySem.W.keepIn K (.ref fa) = true ∧ ∀ cs ds, m cs ds ≠ .no → cs.length + ds.length = prm.length
theorem fnB_len {n nb np : Nat} {sv : SV} (cs : List Cell) (ds : List D) (h : fnB n nb np sv cs ds ≠ .no) : cs.length + ds.length = np := by
  unfold fnB at h
  split at h
  · rename_i e; omega
  · exact absurd rfl h
end

/-! ### calls -/
@[simp] def eCall (m : Fn) (a : AV) : EV := fun ρ => (a ρ).bind fun ds ρ1 => match m [] ds with
  | .ok d _ => .ok d ρ1
  | .er e _ => .er e ρ1
  | _ => .no
/-- a call to which the cell of slot i is lent -/
@[simp] def eCallB (m : Fn) (i : Nat) (a : AV) : EV := fun ρ => match (ρ[i]?).bind Slot.cell with
  | some _ => (a ρ).bind fun ds ρ1 => match ρ1[i]? with
    | some s => match s.cell with
      | some c => match m [c] ds with
        | .ok d [c'] => .ok d (ρ1.set i (s.put c'))
        | .er e [c'] => .er e (ρ1.set i (s.put c'))
        | _ => .no
      | none => .no
    | none => .no
  | none => .no
section
variable {X : Cx} {f : Fm} {W : WX} {x : Str} {b : Bool} {k : Nat} {prm : List Str} {m : Fn} {e : Expr} {es : List Expr} {av : AV} {p pos : Pos}
theorem px_call (C : CalX X.prog X.w X.K X.mg X.base x b k 0 prm m) (hr : Rb b k X.A) (ha : PXA X f W (e :: es) av) (tk : Takes X W) (eg : f.g = ⟨X.K, X.mg⟩ := by rfl) (hg : Gl X x := by rfl) (hdb : (x == ("__debug__" : Str)) = false := by decide)
    (he : starEach (e :: es) X.env = (false, eval e X.env) :: starEach es X.env := by rfl) (hpl : (backTo pos (starEach es X.env)).any (·.1) = false := by rfl) : PX X f W (.Call (.Name x p) (e :: es) [] pos) (eCall m av) := by
  obtain ⟨fa, F, hm, hk, hlen⟩ := C
  refine PE.imp (pe_callF F hr hg hm hk (passAt tk) ha hdb he hpl) fun σ H Q ⟨G, ρ, fi, q⟩ => ⟨G, ρ, fi, PostX.bind q fun ds ρ1 G1 H1 s1 fi1 q1 vs rvs => ?_⟩
  have hne : m [] ds ≠ .no := fun z => by rw [z] at q1; exact q1.elim
  refine ⟨by rw [rvs.len]; simpa using hlen _ _ hne, G1, [], [], vs, ds, rfl, rfl, List.nodup_nil, fi1.gh, .nil, by rw [← eg]; exact rvs, ?_⟩
  have ext : ∀ {G' H' : Hp}, Grow [] G1 H1 G' H' → Same G' H' → Ext G1 H1 G' H' := fun gr sg => ⟨gr.g, fun b o e => gr.h b o (by simp) e, sg, gr.f⟩
  cases hm2 : m [] ds with
  | ok d cs =>
    rw [hm2] at q1
    exact fun v G' H' gr sg _ rp => q1 G' H' gr.g (fi1.ext (ext gr sg)) v (by rw [eg]; exact rp)
  | er er cs =>
    rw [hm2] at q1
    exact fun cls dd G' H' gr sg _ rp => q1 cls dd G' H' gr.g (fi1.ext (ext gr sg)) (by rw [eg]; exact rp)
  | okc c cs => rw [hm2] at q1; exact q1.elim
  | no => exact absurd hm2 hne
theorem px_callB {i : Nat} {y : Str} {py : Pos} (C : CalX X.prog X.w X.K X.mg X.base x b k 1 prm m) (hr : Rb b k X.A) (hv : X.N[i]? = some y) (ha : PXA X f W es av) (tk : Takes X W) (vis : Vis X.env.scope y := by first | exact Or.inl rfl | exact Or.inr (Or.inl rfl) | exact Or.inr (Or.inr rfl)) (eg : f.g = ⟨X.K, X.mg⟩ := by rfl) (hg : Gl X x := by rfl) (hdb : (x == ("__debug__" : Str)) = false := by decide)
    (hd : (y == ("__debug__" : Str)) = false := by decide) (hcd : (y == ("__classdict__" : Str)) = false := by decide)
    (he : starEach (.Name y py :: es) X.env = (false, eval (.Name y py) X.env) :: starEach es X.env := by rfl) (hpl : (backTo pos (starEach es X.env)).any (·.1) = false := by rfl) : PX X f W (.Call (.Name x p) (.Name y py :: es) [] pos) (eCallB m i av) := by
  obtain ⟨fa, F, hm, hk, hlen⟩ := C
  refine PE.imp (pe_callF F hr hg hm hk (passAt tk) (pa_cons (pe_var hv vis hd hcd) ha he) hdb he hpl) fun σ H Q ⟨G, ρ, fi, q⟩ => ?_
  unfold eCallB at q
  split at q
  · rename_i c0 e0
    obtain ⟨s0, es0, ec0⟩ := Option.bind_eq_some_iff.mp e0
    obtain ⟨p0, c0', ep0, _, _⟩ := fi.at es0 (slot_mut ec0)
    refine ⟨_, ep0, G, ρ, fi, PostX.bind q fun ds ρ1 G1 H1 s1 fi1 q1 vs rvs => ?_⟩
    split at q1
    · rename_i s hs
      split at q1
      · rename_i c hc
        have mu := slot_mut hc
        obtain ⟨p1, c1, ep1, cr1, ec1⟩ := fi1.at hs mu
        rw [ep0] at ep1; cases ep1
        have hcc : c1 = c := by rcases ec1 with ⟨rfl, _⟩ | ⟨rfl, _⟩ <;> (cases hc; rfl)
        subst hcc
        have hne : m [c1] ds ≠ .no := fun z => by rw [z] at q1; exact q1.elim
        refine ⟨?_, G1, [p0], [c1], vs, ds, rfl, rfl, by simp, fi1.gh, .cons (by rw [← eg]; exact cr1) .nil, by rw [← eg]; exact rvs, ?_⟩
        · have := hlen _ _ hne
          have := rvs.len
          simp at *
          omega
        · cases hm2 : m [c1] ds with
          | no => exact absurd hm2 hne
          | okc c cs => rw [hm2] at q1; exact q1.elim
          | ok d cs =>
            rw [hm2] at q1
            intro v G' H' gr sg cr' rp
            cases cr' with
            | cons r1 r2 =>
              cases r2
              exact q1 G' H' gr.g (fi1.cell hs mu ep0 gr sg (by rw [eg]; exact r1) rfl) v (by rw [eg]; exact rp)
          | er er cs =>
            rw [hm2] at q1
            intro cls dd G' H' gr sg cr' rp
            cases cr' with
            | cons r1 r2 =>
              cases r2
              exact q1 cls dd G' H' gr.g (fi1.cell hs mu ep0 gr sg (by rw [eg]; exact r1) rfl) (by rw [eg]; exact rp)
      · exact q1.elim
    · exact q1.elim
  · exact q.elim

/-- a call that returns a new cell -/
@[simp] def cCall (m : Fn) (a : AV) : CV := fun ρ => (a ρ).bind fun ds ρ1 => match m [] ds with
  | .okc c _ => .ok c ρ1
  | .er e _ => .er e ρ1
  | _ => .no
theorem pxf_call (C : CalX X.prog X.w X.K X.mg X.base x b k 0 prm m) (hr : Rb b k X.A) (ha : PXA X f W (e :: es) av) (tk : Takes X W) (eg : f.g = ⟨X.K, X.mg⟩ := by rfl) (hg : Gl X x := by rfl) (hdb : (x == ("__debug__" : Str)) = false := by decide)
    (he : starEach (e :: es) X.env = (false, eval e X.env) :: starEach es X.env := by rfl) (hpl : (backTo pos (starEach es X.env)).any (·.1) = false := by rfl) : PXF X f W (.Call (.Name x p) (e :: es) [] pos) (cCall m av) := by
  obtain ⟨fa, F, hm, hk, hlen⟩ := C
  refine PE.imp (pe_callF F hr hg hm hk (passAt tk) ha hdb he hpl) fun σ H Q ⟨G, ρ, fi, q⟩ => ⟨G, ρ, fi, PostF.bindX q fun ds ρ1 G1 H1 s1 fi1 q1 vs rvs => ?_⟩
  have hne : m [] ds ≠ .no := fun z => by rw [z] at q1; exact q1.elim
  refine ⟨by rw [rvs.len]; simpa using hlen _ _ hne, G1, [], [], vs, ds, rfl, rfl, List.nodup_nil, fi1.gh, .nil, by rw [← eg]; exact rvs, ?_⟩
  have ext : ∀ {G' H' : Hp}, Grow [] G1 H1 G' H' → Same G' H' → Ext G1 H1 G' H' := fun gr sg => ⟨gr.g, fun b o e => gr.h b o (by simp) e, sg, gr.f⟩
  cases hm2 : m [] ds with
  | ok d cs => rw [hm2] at q1; exact q1.elim
  | er er cs =>
    rw [hm2] at q1
    exact fun cls dd G' H' gr sg _ rp => q1 cls dd G' H' gr.g (fi1.ext (ext gr sg)) (by rw [eg]; exact rp)
  | okc c cs =>
    rw [hm2] at q1
    intro p G' H' gr sg _ cp hp
    have fi2 := fi1.ext (ext gr sg)
    cases ho : H' p with
    | none => exact absurd ho cp.th
    | some o =>
      refine q1 p o G' H' gr.g ?_ (by rw [eg]; exact cp)
      refine ⟨fi2.gh, fi2.gr, fi2.len, fun i s z => ?_, fi2.ap, fi2.bo, fun q hq => ?_, ?_⟩
      · have := fi2.sl i s z
        cases s <;> exact this
      · rcases List.mem_cons.mp hq with rfl | hq
        · exact ⟨ho, cp.fr, fi1.noH0 hp, fun i s z mu c => by
            obtain ⟨p', c', e1, e2, _⟩ := fi2.at z mu
            rw [c] at e1; cases e1
            obtain ⟨p2, c2, e3, e4, _⟩ := fi1.at z mu
            rw [c] at e3; cases e3
            exact e4.th hp⟩
        · exact fi2.pr q hq
      · show (((p, o) :: f.pr).map (·.1)).Nodup
        rw [List.map_cons, List.nodup_cons]
        refine ⟨fun hmm => ?_, fi1.np⟩
        obtain ⟨q, hq, rfl⟩ := List.mem_map.mp hmm
        rw [(fi1.pr q hq).1] at hp; cases hp
  | no => exact absurd hm2 hne

/-! ### raise -/
@[simp] def sRaise (c : Str) : SV := fun ρ => .er ⟨c, []⟩ ρ
/-- an own error class over ValueError that takes a message -/
def MkX (K : PySem.W.Frag) (mg : Str → Option Value) (x : Str) : Prop := ∃ C, mg x = some (.ref C) ∧ PySem.W.excIn K C [.type "ValueError", .type "Exception", .type "BaseException", .type "object"] "ValueError.__new__" = true ∧ PySem.W.keepIn K (.ref C) = true ∧
  PySem.W.subIn K (.ref C) (.type "BaseException") = some true ∧ PySem.W.typeIn K (.ref C) = some (.type "type")
theorem pxs_raise {c t : Str} {j : Nat} {p p2 pos pos' : Pos} (M : MkX X.K X.mg c) (tk : Takes X W) (hc : X.calm = true) (eg : f.g = ⟨X.K, X.mg⟩ := by rfl) (hg : Gl X c := by rfl) (hdb : (c == ("__debug__" : Str)) = false := by decide) :
    PXS X f W (.Raise (some (.Call (.Name c p) [.Constant (.str t) j p2] [] pos)) none pos') (sRaise c) := by
  obtain ⟨C, g, x, k, b, ty⟩ := M
  exact PS.imp (ps_raise hc tk (pmk_own PySem.F.excBase_ValueError x g k (raises_own b ty) hg hdb)) fun Dd σ H ⟨G, ρ, fi, q⟩ => q (.ref C) none σ G H same_rfl fi ⟨C, rfl, by rw [eg]; exact g, .inl ⟨rfl, rfl⟩⟩
end
end Dx

set_option Elab.async false
set_option linter.all false
set_option maxRecDepth 100000
set_option maxHeartbeats 4000000
/-! the data layer: changing a cell, in, dicts, zip, sorted -/
namespace Dx
open PySem PySem.Spec PyProof.Rows L2 Gd

section
variable {X : Cx} {f : Fm} {W : WX} {G H : Hp} {σ : L2.St} {ρ : Ev}
/-- a cell of a slot gets a new content -/
theorem FI.upd1 (h : FI f G H σ ρ) {i : Nat} {s : Slot} {p : Addr} {c' : Cell} {o : HO} (e : ρ[i]? = some s) (m : s.mut = true) (ep : σ[i]? = some (some (.ref p))) (r : CellR f.g G (upd H p o) p c') : FI f G (upd H p o) σ (ρ.set i (s.put c')) := by
  obtain ⟨p', c0, e1, e2, _⟩ := h.at e m
  rw [ep] at e1; cases e1
  refine h.cell e m ep ⟨same_rfl, fun q u n x => by rw [upd_ne (by simpa using n)]; exact x, fun _ _ => rfl⟩ (fun b u eb => ?_) r rfl
  rw [upd_ne (ne_of_none eb e2.fr)]
  exact h.gh b u eb
/-- the cell of slot i, and what it becomes -/
@[simp] def withC {α : Type} (i : Nat) (k : Cell → Option (α × Cell)) (ρ : Ev) : Re α := match ρ[i]? with
  | some s => match s.cell with
    | some c => match k c with
      | some (a, c') => .ok a (ρ.set i (s.put c'))
      | none => .no
    | none => .no
  | none => .no
theorem cell_at (h : FI f G H σ ρ) {i : Nat} {s : Slot} {c : Cell} (e : ρ[i]? = some s) (hc : s.cell = some c) : ∃ p, σ[i]? = some (some (.ref p)) ∧ CellR f.g G H p c := by
  obtain ⟨p, c1, e1, e2, e3⟩ := h.at e (slot_mut hc)
  have : c1 = c := by rcases e3 with ⟨rfl, _⟩ | ⟨rfl, _⟩ <;> (cases hc; rfl)
  subst this
  exact ⟨p, e1, e2⟩
@[simp] def isLstC (i : Nat) (ρ : Ev) : Bool := match (ρ[i]?).bind Slot.cell with
  | some (.lst _) => true
  | _ => false
/-- x.append(e) -/
@[simp] def sApp (i : Nat) (ev : EV) : SV := fun ρ => if isLstC i ρ = true then (ev ρ).bind fun d ρ1 => withC i (fun c => match c with
  | .lst xs => if xs.length < big then some (Fl.nx, .lst (xs ++ [d])) else none
  | _ => none) ρ1 else .no
theorem isLst_at (h : FI f G H σ ρ) {i : Nat} (e : isLstC i ρ = true) : ∃ p xs, σ[i]? = some (some (.ref p)) ∧ H p = some (.lst xs) := by
  unfold isLstC at e
  split at e
  · rename_i ds hb
    obtain ⟨s, es, ec⟩ := Option.bind_eq_some_iff.mp hb
    obtain ⟨p, ep, cr⟩ := cell_at h es ec
    obtain ⟨_, _, xs, e1, _⟩ := cr
    exact ⟨p, xs, ep, e1⟩
  · cases e
/-- what withC says -/
theorem withC_ok {α : Type} {i : Nat} {k : Cell → Option (α × Cell)} {a : α} {ρ' : Ev} (h : withC i k ρ = .ok a ρ') : ∃ s c c', ρ[i]? = some s ∧ s.cell = some c ∧ k c = some (a, c') ∧ ρ' = ρ.set i (s.put c') := by
  unfold withC at h
  split at h
  · rename_i s hs
    split at h
    · rename_i c hc
      split at h
      · rename_i a' c' hk
        cases h
        exact ⟨s, c, c', hs, hc, hk, rfl⟩
      · cases h
    · cases h
  · cases h
theorem withC_no {α : Type} {i : Nat} {k : Cell → Option (α × Cell)} : (∃ a ρ', withC i k ρ = .ok a ρ') ∨ withC i k ρ = .no := by
  unfold withC
  split
  · split
    · split
      · exact .inl ⟨_, _, rfl⟩
      · exact .inr rfl
    · exact .inr rfl
  · exact .inr rfl
theorem pxs_app {i : Nat} {y : Str} {py apos cpos pos : Pos} {e : Expr} {ev : EV} (hN : X.N[i]? = some y) (h : PX X f W e ev) (hv : Vis X.env.scope y := by first | exact Or.inl rfl | exact Or.inr (Or.inl rfl) | exact Or.inr (Or.inr rfl)) (hd : (y == ("__debug__" : Str)) = false := by decide)
    (hcd : (y == ("__classdict__" : Str)) = false := by decide) (hbase : attributeBase (.Name y py) "append" X.env (eval (.Name y py) X.env) = eval (.Name y py) X.env := by rfl)
    (hfew : ((backTo cpos (starEach [e] X.env)).all (fun x => !x.1) && (backToKw cpos (keywordEach [] X.env)).all (fun x => x.1.isSome)
      && decide (([e] : List Expr).length + ([] : List Keyword).length + (if ([] : List Keyword).isEmpty then 0 else 1) < 30)) = true := by rfl)
    (hline : (apos.endLine == cpos.line) = true := by rfl) (hs : starEach [e] X.env = (false, eval e X.env) :: starEach [] X.env := by rfl) (hpl : (backTo cpos (starEach [] X.env)).any (·.1) = false := by rfl)
    (hsw : swapsWith (.Call (.Attribute (.Name y py) "append" apos) [e] [] cpos) none pos.line X.env = pure false := by rfl) :
    PXS X f W (.Expr (.Call (.Attribute (.Name y py) "append" apos) [e] [] cpos) pos) (sApp i ev) :=
  PS.imp (ps_expr (pe_bm PySem.F.plainAttrs_list PySem.F.slot_list_append PySem.F.type_list_append mt_append (pe_var hN hv hd hcd) (pxa_cons h pxa_nil hs) hbase hfew hline hs hpl) hsw) fun Dd σ H ⟨G, ρ, fi, q⟩ => by
    unfold sApp at q
    split at q
    · rename_i hl
      obtain ⟨p, xs, ep, hx⟩ := isLst_at fi hl
      refine ⟨_, ep, .inl ⟨rfl, xs, SqL.of hx⟩, G, ρ, fi, ?_⟩
      simp only [aCons, aNil]
      cases he : ev ρ with
      | er e ρ1 => simp only [he, Re.bind] at q ⊢; exact fun cls dd G' H' s fi' er => q cls dd σ G' H' s fi' er
      | no => simp only [he, Re.bind] at q; exact q.elim
      | ok d ρ1 =>
        simp only [he, Re.bind] at q ⊢
        intro G1 H1 s1 fi1 vs rvs
        obtain ⟨v, rfl, rv⟩ := rpl1 rvs
        rcases withC_no (i := i) (ρ := ρ1) (k := fun c => match c with
          | .lst xs => if xs.length < big then some (Fl.nx, .lst (xs ++ [d])) else none
          | _ => none) with ⟨a, ρ2, hw⟩ | hw
        · rw [hw] at q
          obtain ⟨s, c, c', hs', hc, hk, rfl⟩ := withC_ok hw
          obtain ⟨p1, ep1, cr⟩ := cell_at fi1 hs' hc
          rw [ep] at ep1; cases ep1
          cases c with
          | lst ds =>
            simp only at hk
            split at hk
            · rename_i hb
              cases hk
              obtain ⟨g0, n0, ys, e1, r1⟩ := cr
              refine ⟨p, ys, v, rfl, rfl, e1, by rw [r1.len]; exact Nat.lt_of_lt_of_le hb big_le, ?_⟩
              exact q σ G1 _ s1 (fi1.upd1 hs' (slot_mut hc) ep ⟨g0, by rw [List.length_append]; exact hb, _, upd_same, r1.app (.cons rv .nil)⟩)
            · cases hk
          | dic _ => cases hk
          | ins _ _ => cases hk
        · rw [hw] at q
          exact q.elim
    · exact q.elim
/-- x[i] = e, x a list of the frame -/
@[simp] def sPut (i : Nat) (ix ev : EV) : SV := fun ρ => (ev ρ).bind fun d ρ1 => if isLstC i ρ1 = true then (ix ρ1).bind fun k ρ2 => withC i (fun c => match c, k with
  | .lst xs, .int j => (ixN xs.length j).map fun j => (Fl.nx, .lst (xs.set j d))
  | _, _ => none) ρ2 else .no
theorem pxs_put {i : Nat} {y : Str} {py tpos pos : Pos} {ie e : Expr} {ix ev : EV} (hN : X.N[i]? = some y) (hi : PX X f W ie ix) (h : PX X f W e ev) (hv : Vis X.env.scope y := by first | exact Or.inl rfl | exact Or.inr (Or.inl rfl) | exact Or.inr (Or.inr rfl)) (hd : (y == ("__debug__" : Str)) = false := by decide)
    (hcd : (y == ("__classdict__" : Str)) = false := by decide)
    (ha : ∀ v, assign (.Subscript (.Name y py) ie tpos) X.env v = (do
      let ov ← holding [v] (eval (.Name y py) X.env)
      let iv ← holding [v, ov] (eval ie X.env)
      standAt tpos
      holding [v, ov, iv] (setItem ov iv v)
      release [v, ov, iv] []) := by intro _; rfl)
    (hs : swapsWithSole [.Subscript (.Name y py) ie tpos] e pos.line X.env = pure false := by rfl) (hw : swappedStores [.Subscript (.Name y py) ie tpos] e X.env = pure none := by rfl)
    (h1 : (assignEach [.Subscript (.Name y py) ie tpos] X.env).map (·.2) = [assign (.Subscript (.Name y py) ie tpos) X.env] := by rfl) :
    PXS X f W (.Assign [.Subscript (.Name y py) ie tpos] e pos) (sPut i ix ev) :=
  PS.imp (ps_asg h (pg_sub (pe_var hN hv hd hcd) hi set_list ha) hs hw h1) fun Dd σ H ⟨G, ρ, fi, q⟩ => ⟨G, ρ, fi, PostS.bindX q fun d ρ1 G1 H1 s1 fi1 q1 v rv => by
    split at q1
    · rename_i hl
      obtain ⟨p, xs, ep, hx⟩ := isLst_at fi1 hl
      refine ⟨_, ep, G1, ρ1, fi1, PostS.bindX q1 fun k ρ2 G2 H2 s2 fi2 q2 u ru => ?_⟩
      rcases withC_no (i := i) (ρ := ρ2) (k := fun c => match c, k with
        | .lst xs, .int j => (ixN xs.length j).map fun j => (Fl.nx, .lst (xs.set j d))
        | _, _ => none) with ⟨a, ρ3, hw⟩ | hw
      · rw [hw] at q2
        obtain ⟨s, c, c', hs', hc, hk, rfl⟩ := withC_ok hw
        obtain ⟨p1, ep1, cr⟩ := cell_at fi2 hs' hc
        rw [ep] at ep1; cases ep1
        cases c with
        | lst ds =>
          cases k <;> simp only [reduceCtorEq, Option.map_eq_some_iff, Prod.mk.injEq] at hk
          obtain ⟨j, hj, rfl, rfl⟩ := hk
          cases ru
          obtain ⟨g0, n0, ys, e1, r1⟩ := cr
          refine ⟨p, ys, _, j, rfl, rfl, e1, by rw [r1.len]; exact hj, ?_⟩
          exact q2 σ G2 _ same_rfl (fi2.upd1 hs' (slot_mut hc) ep ⟨g0, by rw [List.length_set]; exact n0, _, upd_same, r1.set j (rv.up s2)⟩)
        | dic _ => cases hk
        | ins _ _ => cases hk
      · rw [hw] at q2
        exact q2.elim
    · exact q1.elim⟩
/-- x.pop(e) -/
@[simp] def ePop (i : Nat) (ev : EV) : EV := fun ρ => if isLstC i ρ = true then (ev ρ).bind fun d ρ1 => withC i (fun c => match c, d with
  | .lst xs, .int j => if 0 ≤ j ∧ j < xs.length ∧ j.natAbs < 2 ^ 63 then (xs[j.toNat]?).map fun d => (d, .lst (xs.eraseIdx j.toNat)) else none
  | _, _ => none) ρ1 else .no
theorem rpl_erase {g : Gm} {G : Hp} : ∀ {vs : List V} {ds : List D} (n : Nat), RpL g G vs ds → RpL g G (vs.eraseIdx n) (ds.eraseIdx n)
  | _, _, _, .nil => by simpa using .nil
  | _, _, 0, .cons h r => by simpa using r
  | _, _, n + 1, .cons h r => by simpa using .cons h (rpl_erase n r)
theorem px_pop {i : Nat} {y : Str} {py apos cpos : Pos} {e : Expr} {ev : EV} (hN : X.N[i]? = some y) (h : PX X f W e ev) (hv : Vis X.env.scope y := by first | exact Or.inl rfl | exact Or.inr (Or.inl rfl) | exact Or.inr (Or.inr rfl)) (hd : (y == ("__debug__" : Str)) = false := by decide)
    (hcd : (y == ("__classdict__" : Str)) = false := by decide) (hbase : attributeBase (.Name y py) "pop" X.env (eval (.Name y py) X.env) = eval (.Name y py) X.env := by rfl)
    (hfew : ((backTo cpos (starEach [e] X.env)).all (fun x => !x.1) && (backToKw cpos (keywordEach [] X.env)).all (fun x => x.1.isSome)
      && decide (([e] : List Expr).length + ([] : List Keyword).length + (if ([] : List Keyword).isEmpty then 0 else 1) < 30)) = true := by rfl)
    (hline : (apos.endLine == cpos.line) = true := by rfl) (hs : starEach [e] X.env = (false, eval e X.env) :: starEach [] X.env := by rfl) (hpl : (backTo cpos (starEach [] X.env)).any (·.1) = false := by rfl) :
    PX X f W (.Call (.Attribute (.Name y py) "pop" apos) [e] [] cpos) (ePop i ev) :=
  PE.imp (pe_bm PySem.F.plainAttrs_list PySem.F.slot_list_pop PySem.F.type_list_pop mt_popAt (pe_var hN hv hd hcd) (pxa_cons h pxa_nil hs) hbase hfew hline hs hpl) fun σ H Q ⟨G, ρ, fi, q⟩ => by
    unfold ePop at q
    split at q
    · rename_i hl
      obtain ⟨p, xs, ep, hx⟩ := isLst_at fi hl
      refine ⟨_, ep, .inl ⟨rfl, xs, SqL.of hx⟩, G, ρ, fi, ?_⟩
      simp only [aCons, aNil]
      cases he : ev ρ with
      | er e ρ1 => simp only [he, Re.bind] at q ⊢; exact q
      | no => simp only [he, Re.bind] at q; exact q.elim
      | ok d ρ1 =>
        simp only [he, Re.bind] at q ⊢
        intro G1 H1 s1 fi1 vs rvs
        obtain ⟨v, rfl, rv⟩ := rpl1 rvs
        rcases withC_no (i := i) (ρ := ρ1) (k := fun c => match c, d with
          | .lst xs, .int j => if 0 ≤ j ∧ j < xs.length ∧ j.natAbs < 2 ^ 63 then (xs[j.toNat]?).map fun d => (d, .lst (xs.eraseIdx j.toNat)) else none
          | _, _ => none) with ⟨a, ρ2, hw⟩ | hw
        · rw [hw] at q
          obtain ⟨s, c, c', hs', hc, hk, rfl⟩ := withC_ok hw
          obtain ⟨p1, ep1, cr⟩ := cell_at fi1 hs' hc
          rw [ep] at ep1; cases ep1
          cases c with
          | lst ds =>
            cases d <;> simp only [reduceCtorEq] at hk
            rename_i j
            split at hk
            · rename_i hb
              simp only [Option.map_eq_some_iff, Prod.mk.injEq] at hk
              obtain ⟨d', hd', rfl, rfl⟩ := hk
              cases rv
              obtain ⟨g0, n0, ys, e1, r1⟩ := cr
              obtain ⟨yv, hy, ry⟩ := r1.getD hd'
              refine ⟨p, ys, j, j.toNat, yv, rfl, rfl, e1, by omega, (by have := hb.2.2; omega), ?_, hy, ?_⟩
              · exact seqIndex_of hb.1 (by rw [r1.len]; exact hb.2.1)
              · exact q G1 _ s1 (fi1.upd1 hs' (slot_mut hc) ep ⟨g0, Nat.le_trans (List.length_eraseIdx_le ..) n0, _, upd_same, rpl_erase _ r1⟩) _ ry
            · cases hk
          | dic _ => cases hk
          | ins _ _ => cases hk
        · rw [hw] at q
          exact q.elim
    · exact q.elim
/-- x += e, ints -/
@[simp] def sAug (i : Nat) (F : Int → Int → Int) (ev : EV) : SV := fun ρ => match ρ[i]? with
  | some (.dat (.int a)) => (ev ρ).bind fun d ρ1 => match d with
    | .int b => match tName i (.int (F a b)) ρ1 with
      | .ok _ ρ2 => .ok .nx ρ2
      | _ => .no
    | _ => .no
  | _ => .no
theorem pxs_aug {i : Nat} {x : Str} {e : Expr} {ev : EV} {op : Operator} {F : Int → Int → Int} {pos pos' : Pos} (ho : PIp X op (ipI F)) (hN : X.N.Nodup) (hi : X.N[i]? = some x) (hx : Loc X.env.scope x) (h : PX X f W e ev)
    (hf : X.fn x = true ∨ X.env.scope.names.lookup x = some .local := by first | exact .inl rfl | exact .inr rfl | assumption) : PXS X f W (.AugAssign (.Name x pos') op e pos) (sAug i F ev) :=
  PS.imp (ps_aug hN hi hx h ho hf) fun Dd σ H ⟨G, ρ, fi, q⟩ => by
    unfold sAug at q
    split at q
    · rename_i a e1
      obtain ⟨v, ev1, rv⟩ := fi.sl i _ e1
      cases rv
      refine ⟨_, ev1, G, ρ, fi, PostS.bindX q fun d ρ1 G1 H1 s1 fi1 q1 u ru => ?_⟩
      split at q1
      · rename_i b
        cases ru
        refine ⟨_, _, rfl, rfl, ?_⟩
        split at q1
        · rename_i u ρ2 e2
          obtain ⟨rfl, nb⟩ := tName_ok e2
          exact q1 _ G1 H1 same_rfl (fi1.setDat (.int _) nb)
        · exact q1.elim
      · exact q1.elim
    · exact q.elim
end
end Dx

set_option Elab.async false
set_option linter.all false
set_option maxRecDepth 100000
set_option maxHeartbeats 4000000
/-! the data layer: reading a cell without freezing it; two names at once -/
namespace Dx
open PySem PySem.Spec PyProof.Rows L2 Gd

section
variable {X : Cx} {f : Fm} {W : WX} {g : Gm}
def rIxO (g : Gm) : R2 := fun x y H Q => ∃ G p c k r, Same G H ∧ x = .ref p ∧ CellR g G H p c ∧ Rp g G y k ∧ dIx c.toD k = some r ∧ ∀ v, Rp g G v r → Q v H
theorem ixO (hu : X.A.units + 1 < cLine) : IxR X (rIxO g) := by
  intro value slice pins s σ H x y v u Q I rx ry ⟨G, p, c, k, r, sg, ex, cr, re, hF, q⟩ hs
  subst ex
  cases c with
  | lst ds =>
    obtain ⟨_, _, xs, e1, ra⟩ := cr
    cases k <;> simp only [Cell.toD, dIx, reduceCtorEq] at hF
    cases re
    obtain ⟨w, h1, h2⟩ := atI_rp ra hF
    exact ix_list value slice pins s σ H _ _ v u Q I rx ry ⟨_, _, _, w, rfl, rfl, SqL.of e1, h1, q w h2⟩ hs
  | dic ks =>
    obtain ⟨_, _, kvs, e1, ea, ra⟩ := cr
    have hF' : ((dKey k).bind fun k => lkD ks k) = some r := by simpa only [Cell.toD, dIx] using hF
    obtain ⟨kk, h1, h2⟩ := Option.bind_eq_some_iff.mp hF'
    have ey := key_rp re h1
    have := lk_rp (k := kk) ea ra
    rw [h2] at this
    obtain ⟨w, h3, h4⟩ := this
    subst ey
    cases (show v = Value.ref _ from rx)
    have gg : DGet H _ (kV kk) (some w) := .inl ⟨_, kk, .inl e1, rfl, h3.symm⟩
    exact tail_any (dict_typeIs I gg) PySem.F.slot_dict_getitem.lookup (d_getItem hu I gg ry fun w' s3 I3 rw' => ⟨w, H, I3, rw', q w h4⟩) hs
  | ins c fs => simp only [Cell.toD, dIx, reduceCtorEq] at hF
/-- x[k], x a cell of the frame -/
@[simp] def eIxO (i : Nat) (ix : EV) : EV := fun ρ => match (ρ[i]?).bind Slot.cell with
  | some _ => (ix ρ).bind fun k ρ1 => match (ρ1[i]?).bind Slot.cell with
    | some c => Re.opt ρ1 (dIx c.toD k)
    | none => .no
  | none => .no
theorem cell_of {G H : Hp} {σ : L2.St} {ρ : Ev} (h : FI f G H σ ρ) {i : Nat} {c : Cell} (e : (ρ[i]?).bind Slot.cell = some c) : ∃ p, σ[i]? = some (some (.ref p)) ∧ CellR f.g G H p c := by
  obtain ⟨s, es, ec⟩ := Option.bind_eq_some_iff.mp e
  exact cell_at h es ec
theorem px_ixO {i : Nat} {y : Str} {py pos : Pos} {b : Expr} {ix : EV} (hN : X.N[i]? = some y) (hb : PX X f W b ix) (hu : X.A.units + 1 < cLine) (hv : Vis X.env.scope y := by first | exact Or.inl rfl | exact Or.inr (Or.inl rfl) | exact Or.inr (Or.inr rfl)) (hd : (y == ("__debug__" : Str)) = false := by decide)
    (hcd : (y == ("__classdict__" : Str)) = false := by decide) (hs : PlainIx b := by intro _ _; rfl) : PX X f W (.Subscript (.Name y py) b pos) (eIxO i ix) :=
  PE.imp (pe_ix (ixO (g := f.g) hu) (pe_var hN hv hd hcd) hb hs) fun σ H Q ⟨G, ρ, fi, q⟩ => by
    unfold eIxO at q
    split at q
    · rename_i c0 h0
      obtain ⟨p, ep, _⟩ := cell_of fi h0
      refine ⟨_, ep, G, ρ, fi, PostX.bind q fun k ρ1 G1 H1 s1 fi1 q1 v rv => ?_⟩
      split at q1
      · rename_i c h1
        obtain ⟨p1, ep1, cr⟩ := cell_of fi1 h1
        rw [ep] at ep1; cases ep1
        cases hd : dIx c.toD k with
        | none => rw [hd] at q1; exact q1.elim
        | some r =>
          rw [hd] at q1
          exact ⟨G1, p, c, k, r, fi1.gh, rfl, cr, rv, hd, fun w rw' => q1 G1 H1 same_rfl fi1 w rw'⟩
      · exact q1.elim
    · exact q.elim
/-- len(x), x a cell of the frame -/
@[simp] def eLenO (i : Nat) : EV := fun ρ => match (ρ[i]?).bind Slot.cell with
  | some (.lst xs) => .ok (.int xs.length) ρ
  | _ => .no
theorem px_lenO {i : Nat} {y : Str} {py p pos : Pos} (hN : X.N[i]? = some y) (hm : X.mg "len" = none) (hv : Vis X.env.scope y := by first | exact Or.inl rfl | exact Or.inr (Or.inl rfl) | exact Or.inr (Or.inr rfl)) (hd : (y == ("__debug__" : Str)) = false := by decide)
    (hcd : (y == ("__classdict__" : Str)) = false := by decide) (hg : Gl X "len" := by rfl) (he : starEach [.Name y py] X.env = (false, eval (.Name y py) X.env) :: starEach [] X.env := by rfl) (hpl : (backTo pos (starEach [] X.env)).any (·.1) = false := by rfl) :
    PX X f W (.Call (.Name "len" p) [.Name y py] [] pos) (eLenO i) :=
  PE.imp (pe_callB call_len hg hm (by decide +kernel) (pa_cons (pe_var hN hv hd hcd) pa_nil he) (by decide) (by decide) he hpl) fun σ H Q ⟨G, ρ, fi, q⟩ => by
    unfold eLenO at q
    split at q
    · rename_i xs h0
      obtain ⟨p, ep, cr⟩ := cell_of fi h0
      obtain ⟨_, _, vs, e1, ra⟩ := cr
      exact ⟨_, ep, _, _, rfl, .inl ⟨vs, SqL.of e1, rfl⟩, by rw [ra.len]; exact q G H same_rfl fi _ (.int _)⟩
    · exact q.elim

/-! ### two names at once, new cells among them -/
theorem CellR.kept {G H G' H' : Hp} {p : Addr} {o : HO} {c : Cell} (h : CellR g G H p c) (e : H p = some o) (e' : H' p = some o) (n : G' p = none) (s : Same G G') (nc : ∀ c' fs, c ≠ .ins c' fs) : CellR g G' H' p c := by
  cases c with
  | lst ds =>
    obtain ⟨_, b, xs, e1, r⟩ := h
    rw [e] at e1; cases e1
    exact ⟨n, b, xs, e', r.up s⟩
  | dic ks =>
    obtain ⟨_, b, xs, e1, e2, r⟩ := h
    rw [e] at e1; cases e1
    exact ⟨n, b, xs, e', e2, r.up s⟩
  | ins c fs => exact absurd rfl (nc c fs)
def Cell.plain : Cell → Bool
  | .ins _ _ => false
  | _ => true
theorem plain_ne {c : Cell} (h : c.plain = true) : ∀ c' fs, c ≠ .ins c' fs := fun c' fs e => by subst e; cases h
def putS (s : D ⊕ Cell) : Slot := match s with
  | .inl d => .dat d
  | .inr c => .own c
abbrev MV := EV ⊕ CV
def runM : MV → Ev → Re (D ⊕ Cell)
  | .inl e, ρ => match e ρ with
    | .ok d ρ' => .ok (.inl d) ρ'
    | .er e ρ' => .er e ρ'
    | .no => .no
  | .inr e, ρ => match e ρ with
    | .ok d ρ' => if d.plain = true then .ok (.inr d) ρ' else .no
    | .er e ρ' => .er e ρ'
    | .no => .no
def okSet (i : Nat) (ρ : Ev) : Bool := match ρ[i]? with
  | some (.bor _) => false
  | some _ => true
  | none => false
@[simp] def sParM (i j : Nat) (a b : MV) : SV := fun ρ => (runM a ρ).bind fun x ρ1 => (runM b ρ1).bind fun y ρ2 => if okSet i ρ2 = true ∧ okSet j ρ2 = true ∧ i ≠ j then .ok .nx ((ρ2.set i (putS x)).set j (putS y)) else .no
/-- how an expression stands for x: data, or a new cell at p -/
def HasM (f : Fm) (G H : Hp) (σ : L2.St) (ρ : Ev) (v : V) : D ⊕ Cell → Fm → Prop
  | .inl d, f' => f' = f ∧ FI f G H σ ρ ∧ Rp f.g G v d
  | .inr c, f' => ∃ p o, v = .ref p ∧ f' = f.add p o ∧ FI (f.add p o) G H σ ρ ∧ CellR f.g G H p c ∧ c.plain = true
def tXM (f : Fm) (W : WX) (m : MV) : TE := fun σ H Q => ∃ G ρ, FI f G H σ ρ ∧ match runM m ρ with
  | .ok x ρ' => ∀ v f' G' H', Same G G' → HasM f G' H' σ ρ' v x f' → Q v H'
  | .er e ρ' => ∀ cls dd G' H', Same G G' → FI f G' H' σ ρ' → ErR f.g G' cls dd e → W cls dd σ H'
  | .no => False
abbrev PXM (X : Cx) (f : Fm) (W : WX) (e : Expr) (m : MV) : Prop := ∀ pr, PE X e (tXM (f.at pr) W m)
theorem pxm_e {e : Expr} {ev : EV} (h : ∀ pr, PX X (f.at pr) W e ev) : PXM X f W e (.inl ev) := fun pr => PE.imp (h pr) fun σ H Q ⟨G, ρ, fi, q⟩ => ⟨G, ρ, fi, by
  unfold runM at q
  cases he : ev ρ with
  | ok d ρ1 => simp only [he] at q; exact fun G' H' s fi' v rv => q v _ G' H' s ⟨rfl, fi', rv⟩
  | er e ρ1 => simp only [he] at q; exact q
  | no => simp only [he] at q⟩
theorem pxm_c {e : Expr} {ev : CV} (h : ∀ pr, PXF X (f.at pr) W e ev) : PXM X f W e (.inr ev) := fun pr => PE.imp (h pr) fun σ H Q ⟨G, ρ, fi, q⟩ => ⟨G, ρ, fi, by
  unfold runM at q
  cases he : ev ρ with
  | ok d ρ1 =>
    simp only [he] at q
    intro p o G' H' s fi' cr
    split at q
    · rename_i hp
      split at hp
      · rename_i hpl
        cases hp
        exact q _ _ G' H' s ⟨p, o, rfl, rfl, fi', cr, hpl⟩
      · cases hp
    · rename_i hp; split at hp <;> cases hp
    · exact q.elim
  | er e ρ1 => simp only [he] at q; exact q
  | no => simp only [he] at q⟩
theorem okSet_nb {i : Nat} {ρ : Ev} (h : okSet i ρ = true) : ∀ c, ρ[i]? ≠ some (.bor c) := fun c e => by
  unfold okSet at h; rw [e] at h; cases h
theorem setM {G H : Hp} {σ : L2.St} {ρ : Ev} {i j : Nat} {v w : V} {x y : D ⊕ Cell} {f' f'' : Fm} {G1 H1 : Hp} {ρ1 : Ev} (hx : HasM f G1 H1 σ ρ1 v x f') (hy : HasM f' G H σ ρ w y f'') (s : Same G1 G) (hi : okSet i ρ = true) (hj : okSet j ρ = true) (hij : i ≠ j) :
    FI f G H ((σ.set i (some v)).set j (some w)) ((ρ.set i (putS x)).set j (putS y)) := by
  have nbi := okSet_nb hi
  have nbj := okSet_nb hj
  have nbj2 : ∀ sl, ∀ c, (ρ.set i sl)[j]? ≠ some (.bor c) := fun sl c => by rw [List.getElem?_set_ne hij]; exact nbj c
  cases x with
  | inl d =>
    obtain ⟨rfl, fi1, rd⟩ := hx
    cases y with
    | inl e =>
      obtain ⟨rfl, fi2, re⟩ := hy
      exact (fi2.setDat (rd.up s) nbi).setDat re (nbj2 _)
    | inr c =>
      obtain ⟨p, o, rfl, rfl, fi2, cr, _⟩ := hy
      obtain ⟨a, b, z, n, e⟩ := fi2.laid
      refine (fi2.unlay.setDat (rd.up s) nbi).setOwn cr z (nbj2 _) (fun k t ek mk => ?_) e
      by_cases hk : i = k
      · subst hk
        have hlt : i < ρ.length := by have := (List.getElem?_eq_some_iff.mp ek).1; simpa using this
        rw [List.getElem?_set_self hlt] at ek; cases ek; cases mk
      · rw [List.getElem?_set_ne hk] at ek ⊢
        exact n k t ek mk
  | inr c0 =>
    obtain ⟨p0, o0, rfl, rfl, fi1, cr0, pl0⟩ := hx
    have h10 := fi1.laid.1
    have fin : ∀ {fi2 : FI (f.add p0 o0) G H σ ρ}, CellR f.g G H p0 c0 := fun {fi2} => cr0.kept h10 fi2.laid.1 fi2.laid.2.1 s (plain_ne pl0)
    cases y with
    | inl e =>
      obtain ⟨rfl, fi2, re⟩ := hy
      obtain ⟨a, b, z, n, e⟩ := fi2.laid
      exact (fi2.unlay.setOwn (fin (fi2 := fi2)) z nbi n e).setDat re (nbj2 _)
    | inr c =>
      obtain ⟨p, o, rfl, rfl, fi2, cr, _⟩ := hy
      obtain ⟨a, b, z, n, e⟩ := fi2.laid
      have fi3 := fi2.unlay
      obtain ⟨a0, b0, z0, n0, e0⟩ := fi3.laid
      have hne : p0 ≠ p := e (p0, o0) List.mem_cons_self
      refine (fi3.unlay.setOwn (fin (fi2 := fi3)) z0 nbi n0 e0).setOwn cr z (nbj2 _) (fun k t ek mk => ?_) fun q hq => e q (List.mem_cons_of_mem _ hq)
      by_cases hk : i = k
      · subst hk
        have hlt : i < ρ.length := by have := (List.getElem?_eq_some_iff.mp ek).1; simpa using this
        rw [List.getElem?_set_self (by rw [fi2.len]; exact hlt)]
        intro z2
        exact hne (by injection z2 with z2; injection z2 with z2; injection z2)
      · rw [List.getElem?_set_ne hk] at ek ⊢
        exact n k t ek mk
theorem pxs_parM {i j : Nat} {x y : Str} {a b : Expr} {ma mb : MV} {px py pt : Pos} {kt k2 pt2} {pos : Pos} (hc : X.calm = true) (hN : X.N.Nodup) (hi : X.N[i]? = some x) (hj : X.N[j]? = some y) (hij : i ≠ j)
    (hx : X.env.scope.names.lookup x = some .local) (hy : X.env.scope.names.lookup y = some .local) (ha : PXM X f W a ma) (hb : PXM X f W b mb)
    (hw : swappedStores [.Tuple [.Name x px, .Name y py] kt pt] (.Tuple [a, b] k2 pt2) X.env = pure (some [x, y]))
    (hs : swapsWithSole [.Tuple [.Name x px, .Name y py] kt pt] (.Tuple [a, b] k2 pt2) pos.line X.env = pure false := by rfl)
    (h1 : starEach [a, b] X.env = (false, eval a X.env) :: starEach [b] X.env := by rfl) (h2 : starEach [b] X.env = (false, eval b X.env) :: starEach [] X.env := by rfl) :
    PXS X f W (.Assign [.Tuple [.Name x px, .Name y py] kt pt] (.Tuple [a, b] k2 pt2) pos) (sParM i j ma mb) :=
  PS.imp (ps_par hc hN hi hj hij hx hy (pa_cons (ha f.pr) (pa_cons (PE.ex fun pr => hb pr) pa_nil h2) h1) hw hs) fun Dd σ H ⟨G, ρ, fi, q⟩ => by
    unfold sParM at q
    refine ⟨G, ρ, fi, ?_⟩
    cases hA : runM ma ρ with
    | er e ρ1 => simp only [hA, Re.bind] at q; exact fun cls dd G' H' s fi' er => q cls dd σ G' H' s fi' er
    | no => simp only [hA, Re.bind] at q; exact q.elim
    | ok x ρ1 =>
      simp only [hA, Re.bind] at q
      intro v f' G1 H1 s1 hx'
      have fi1 : FI f' G1 H1 σ ρ1 := by
        cases x with
        | inl d => obtain ⟨rfl, fi1, _⟩ := hx'; exact fi1
        | inr c => obtain ⟨p, o, _, rfl, fi1, _⟩ := hx'; exact fi1
      have ef : ∃ pr, f' = f.at pr := by
        cases x with
        | inl d => obtain ⟨rfl, _⟩ := hx'; exact ⟨_, rfl⟩
        | inr c => obtain ⟨p, o, _, rfl, _⟩ := hx'; exact ⟨_, rfl⟩
      obtain ⟨pr, rfl⟩ := ef
      have down : ∀ {G' H' ρ'}, FI (f.at pr) G' H' σ ρ' → FI f G' H' σ ρ' := fun {G' H' ρ'} h => by
        cases x with
        | inl d => obtain ⟨e, _⟩ := hx'; rw [e] at h; exact h
        | inr c => obtain ⟨p, o, _, e, _⟩ := hx'; rw [e] at h; exact h.unlay
      refine ⟨pr, G1, ρ1, fi1, ?_⟩
      cases hB : runM mb ρ1 with
      | er e ρ2 => simp only [hB] at q; exact fun cls dd G' H' s fi' er => q cls dd σ G' H' (same_trans s1 s) (down fi') er
      | no => simp only [hB] at q; exact q.elim
      | ok y ρ2 =>
        simp only [hB] at q
        intro w f'' G2 H2 s2 hy'
        split at q
        · rename_i hok
          exact ⟨v, w, rfl, q _ G2 H2 (same_trans s1 s2) (setM hx' hy' s2 hok.1 hok.2.1 hok.2.2)⟩
        · exact q.elim
/-- name = [..] on one row, the list is not changed later -/
@[simp] def sDatLc (i : Nat) (ev : CV) : SV := fun ρ => (ev ρ).bind fun c ρ1 => match c.frz with
  | some d => match tName i d ρ1 with
    | .ok _ ρ2 => .ok .nx ρ2
    | _ => .no
  | none => .no
theorem cLc_lst {iv : LV} {t : GV} {c : BV} {e : EV} {vs : List Nat} {ρ ρ1 : Ev} {cc : Cell} (h : cLc iv t c e vs ρ = .ok cc ρ1) : ∃ ds, cc = .lst ds := by
  unfold cLc at h
  cases hi : iv ρ with
  | no => rw [hi] at h; cases h
  | er e ρ1 => rw [hi] at h; cases h
  | ok ds ρ1 =>
    rw [hi] at h
    simp only [Re.bind] at h
    split at h
    · split at h
      · cases h; exact ⟨_, rfl⟩
      · cases h
    · cases h
theorem pxs_datLc {i : Nat} {y : Str} {py : Pos} {elt tg iter : Expr} {ifs : List Expr} {scope : Scope} {own : List (Str × Nat)} {pos spos : Pos} {iv : LV} {t : GV} {c : BV} {e : EV} {ts : List Nat} (hc : X.calm = true) (hN : X.N.Nodup) (hy : X.N[i]? = some y) (hyl : X.env.scope.names.lookup y = some .local)
    (hsw : swapsWith (.ListComp elt [⟨tg, iter, ifs, 0⟩] scope pos) (some (.Name y py)) spos.line X.env = pure true) (hi : PXI X f W tg iter iv) (ok : BlkOk X.N X.env.scope scope own)
    (hts : ∀ j ∈ ts, j ∈ own.map (·.2)) (hg : ∀ (s : Shared) (H : Hp) (C : Addr) (cl : List (Str × Addr)) (fp : List Addr) (pr : List (Addr × HO)), PXG (X.blk s H scope (compEnvC scope cl C X.env) fp) (f.at pr) tg ts t)
    (ht : ∀ (s : Shared) (H : Hp) (C : Addr) (cl : List (Str × Addr)) (fp : List Addr) (pr : List (Addr × HO)), PXTs (X.blk s H scope (compEnvC scope cl C X.env) fp) (f.at pr) W0 ifs c)
    (he : ∀ (s : Shared) (H : Hp) (C : Addr) (cl : List (Str × Addr)) (fp : List Addr) (pr : List (Addr × HO)), PX (X.blk s H scope (compEnvC scope cl C X.env) fp) (f.at pr) W0 elt e) (hs : ∀ x, foldedSetIterable iter X.env x = pure x := by intro _; rfl) :
    PXS X f W (.Assign [.Name y py] (.ListComp elt [⟨tg, iter, ifs, 0⟩] scope pos) spos) (sDatLc i (cLc iv t c e (own.map (·.2)))) :=
  PS.imp (ps_setLc hc hN hy hyl hsw hi ok (fun s H C cl fp => PG.ex (hg s H C cl fp)) (fun s H C cl fp => PTs.ex (ht s H C cl fp)) (fun s H C cl fp => PE.ex (he s H C cl fp)) hs) fun Dd σ H ⟨G, ρ, fi, q⟩ => by
    have q2 : PostF f W σ G (fun v H' => Dd.nx (σ.set i (some v)) H') (cLc iv t c e (own.map (·.2)) ρ) := by
      simp only [sDatLc] at q
      cases he : cLc iv t c e (own.map (·.2)) ρ with
      | er e ρ1 =>
        rw [he] at q
        exact fun cls dd G' H' s fi' er => q cls dd σ G' H' s fi' er
      | no => rw [he] at q; exact q.elim
      | ok cc ρ1 =>
        rw [he] at q
        simp only [Re.bind] at q
        intro p o G' H' s fi' cr
        split at q
        · rename_i d hd
          obtain ⟨ds, rfl⟩ := cLc_lst he
          obtain ⟨G2, x, fi2, rp⟩ := (fi'.done cr hd).elim id fun ⟨kvs, e1, _⟩ => by obtain ⟨_, _, xs, e2, _⟩ := cr; rw [e1] at e2; cases e2
          split at q
          · rename_i u ρ2 e2
            obtain ⟨rfl, nb⟩ := tName_ok e2
            exact q _ _ _ (same_trans s x) (fi2.setDat rp nb)
          · exact q.elim
        · exact q.elim
    exact ⟨G, ρ, fi, PostF.bindX q2 fun ds ρ1 G1 H1 s1 fi1 q1 J hJ D hD => lcS (iv := iv) hts fi1 hD hJ q1⟩
end
end Dx

set_option Elab.async false
set_option linter.all false
set_option maxRecDepth 100000
set_option maxHeartbeats 4000000
/-! the data layer: in, get, displays of dicts, zip, three comparisons -/
namespace Dx
open PySem PySem.Spec PyProof.Rows L2 Gd RZ

/-! ### in -/
def flatD : D → Bool
  | .non => true
  | .bl _ => true
  | .int _ => true
  | .str _ => true
  | _ => false
def eqF : D → D → Bool
  | .non, .non => true
  | .bl a, .bl b => a == b
  | .bl a, .int b => (if a then 1 else 0) == b
  | .int a, .bl b => a == (if b then 1 else 0)
  | .int a, .int b => a == b
  | .str a, .str b => a == b
  | _, _ => false
/-- a text of one sign -/
def signD : D → Option Nat
  | .str x => match x.cps.toList with
    | [c] => some c
    | _ => none
  | _ => none
theorem sign_of {d : D} {c : Nat} (h : signD d = some c) : d = .str ⟨#[c]⟩ := by
  cases d <;> simp only [signD, reduceCtorEq] at h
  rename_i x
  obtain ⟨a⟩ := x
  split at h
  · rename_i c' e
    cases h
    have : a = #[c] := by rw [← Array.toList_inj]; simpa using e
    rw [this]
  · cases h
def dIn (neg : Bool) (x y : D) : Option D := match y with
  | .tup ys => if flatD x = true ∧ ys.all flatD = true then some (.bl (xor neg (ys.any fun y => eqF y x))) else none
  | .lst ys => if flatD x = true ∧ ys.all flatD = true then some (.bl (xor neg (ys.any fun y => eqF y x))) else (if pl 16 x = true ∧ pl 16 (.lst ys) = true then some (.bl (xor neg ((pdL ys).any fun z => PyData.eqv z (pd x)))) else none)
  | .dic ks => (dKey x).map fun k => .bl (xor neg (lkD ks k).isSome)
  | .str z => (signD x).map fun c => .bl (xor neg (decide (c ∈ z.cps.toList)))
  | _ => none
section
variable {X : Cx} {f : Fm} {W : WX} {g : Gm}
theorem flat_rp {G : Hp} {v : V} {d : D} (r : Rp g G v d) : flatV v = true ↔ flatD d = true ∨ ∃ n, d = .ty n ∧ flatV v = true := by
  cases r <;> simp [flatV, flatD]
theorem flatV_of {G : Hp} {v : V} {d : D} (r : Rp g G v d) (h : flatD d = true) : flatV v = true := by
  cases r <;> first | rfl | cases h
theorem eqV_rp {G : Hp} {v w : V} {d e : D} (r : Rp g G v d) (q : Rp g G w e) (h1 : flatD d = true) (h2 : flatD e = true) : eqV v w = eqF d e := by
  cases r <;> first | cases h1 | skip
  all_goals (cases q <;> first | rfl | cases h2)
theorem flatAll_of {G : Hp} : ∀ {vs : List V} {ds : List D}, RpL g G vs ds → ds.all flatD = true → vs.all flatV = true
  | _, _, .nil, _ => rfl
  | _, _, .cons h r, e => by
    rw [List.all_cons, Bool.and_eq_true] at e ⊢
    exact ⟨flatV_of h e.1, flatAll_of r e.2⟩
theorem inV_rp {G : Hp} {v : V} {d : D} (q : Rp g G v d) (h : flatD d = true) : ∀ {vs : List V} {ds : List D}, RpL g G vs ds → ds.all flatD = true → inV v vs = ds.any fun y => eqF y d
  | _, _, .nil, _ => rfl
  | _, _, .cons h1 r, e => by
    rw [List.all_cons, Bool.and_eq_true] at e
    have ih := inV_rp q h r e.2
    unfold inV at ih ⊢
    rw [List.any_cons, List.any_cons, ih, eqV_rp h1 q e.1 h]
theorem xor_neg (b : Bool) : (if true = true then !b else b) = xor true b := by cases b <;> rfl
theorem any_pd {d : PyData} (ds : List PyData) : (ds.any fun z => PyData.eqv z d) = ds.any fun z => PyData.eqv z d := rfl
theorem some_rp {G : Hp} {kvs : List (Key × V)} {ks : List (Key × D)} (ea : kvs.map (·.1) = ks.map (·.1)) (ra : RpL g G (kvs.map (·.2)) (ks.map (·.2))) (k : Key) : (valV kvs k).isSome = (lkD ks k).isSome := by
  have := lk_rp (k := k) ea ra
  split at this
  · rename_i h; obtain ⟨w, h3, _⟩ := this; rw [h3, h]; rfl
  · rename_i h; rw [this, h]; rfl
theorem ox_in (hu : X.A.units + 65 < cLine) (hk : X.K = g.K := by rfl) : OpX X g (compareOp .In) (dIn false) := by
  intro pins s σ H x y v u Q I rx ry ⟨G, d, e, r, sg, rd, re, hF, q⟩
  unfold dIn at hF
  split at hF
  · split at hF <;> cases hF
    rename_i hz
    cases re with | tup qa na ra =>
    refine op_in_seq pins s σ H _ _ v u Q I rx ry ⟨_, _, rfl, .inr (by rw [hk]; exact sqTS sg qa), flatV_of rd hz.1, flatAll_of ra hz.2, ?_⟩
    rw [inV_rp rd hz.1 ra hz.2]
    exact q _ G H (Ext.rfl sg) (by rw [Bool.false_xor]; exact .bl _)
  · split at hF
    · cases hF
      rename_i hz
      cases re with | lst qa na ra =>
      refine op_in_seq pins s σ H _ _ v u Q I rx ry ⟨_, _, rfl, .inl (SqL.of (sg _ _ qa)), flatV_of rd hz.1, flatAll_of ra hz.2, ?_⟩
      rw [inV_rp rd hz.1 ra hz.2]
      exact q _ G H (Ext.rfl sg) (by rw [Bool.false_xor]; exact .bl _)
    · split at hF <;> cases hF
      rename_i hz
      obtain ⟨a, b⟩ := shaped_of sg hz.1 rd
      obtain ⟨a2, b2⟩ := shaped_of sg hz.2 re
      exact op_inD hu pins s σ H _ _ v u Q I rx ry ⟨_, pdL _, by rw [hk]; exact a, by rw [hk]; exact a2, b, b2, q _ G H (Ext.rfl sg) (by rw [Bool.false_xor]; exact .bl _)⟩
  · obtain ⟨k, h1, rfl⟩ := Option.map_eq_some_iff.mp hF
    cases re with | dic qa na ea ra =>
    have ex := key_rp rd h1
    subst ex
    cases (show u = Value.ref _ from ry)
    have gg : DGet H _ (kV k) (valV _ k) := .inl ⟨_, k, rdS sg (.inr ⟨_, qa⟩), rfl, rfl⟩
    refine d_in (by omega) I gg rx fun s3 I3 => ⟨.bl _, H, I3, rfl, ?_⟩
    rw [some_rp ea ra k]
    exact q _ G H (Ext.rfl sg) (by rw [Bool.false_xor]; exact .bl _)
  · obtain ⟨c, h1, rfl⟩ := Option.map_eq_some_iff.mp hF
    have := sign_of h1
    subst this
    cases re
    cases rd
    exact op_in_sign pins s σ H _ _ v u Q I rx ry ⟨_, _, rfl, rfl, q _ G H (Ext.rfl sg) (by rw [Bool.false_xor]; exact .bl _)⟩
  · cases hF
theorem ox_nin (hu : X.A.units + 65 < cLine) (hk : X.K = g.K := by rfl) : OpX X g (compareOp .NotIn) (dIn true) := by
  intro pins s σ H x y v u Q I rx ry ⟨G, d, e, r, sg, rd, re, hF, q⟩
  unfold dIn at hF
  split at hF
  · split at hF <;> cases hF
    rename_i hz
    cases re with | tup qa na ra =>
    refine op_notIn_seq pins s σ H _ _ v u Q I rx ry ⟨_, _, rfl, .inr (by rw [hk]; exact sqTS sg qa), flatV_of rd hz.1, flatAll_of ra hz.2, ?_⟩
    rw [inV_rp rd hz.1 ra hz.2]
    exact q _ G H (Ext.rfl sg) (by rw [Bool.true_xor]; exact .bl _)
  · split at hF
    · cases hF
      rename_i hz
      cases re with | lst qa na ra =>
      refine op_notIn_seq pins s σ H _ _ v u Q I rx ry ⟨_, _, rfl, .inl (SqL.of (sg _ _ qa)), flatV_of rd hz.1, flatAll_of ra hz.2, ?_⟩
      rw [inV_rp rd hz.1 ra hz.2]
      exact q _ G H (Ext.rfl sg) (by rw [Bool.true_xor]; exact .bl _)
    · split at hF <;> cases hF
      rename_i hz
      obtain ⟨a, b⟩ := shaped_of sg hz.1 rd
      obtain ⟨a2, b2⟩ := shaped_of sg hz.2 re
      exact op_notInD hu pins s σ H _ _ v u Q I rx ry ⟨_, pdL _, by rw [hk]; exact a, by rw [hk]; exact a2, b, b2, q _ G H (Ext.rfl sg) (by rw [Bool.true_xor]; exact .bl _)⟩
  · obtain ⟨k, h1, rfl⟩ := Option.map_eq_some_iff.mp hF
    cases re with | dic qa na ea ra =>
    have ex := key_rp rd h1
    subst ex
    cases (show u = Value.ref _ from ry)
    have gg : DGet H _ (kV k) (valV _ k) := .inl ⟨_, k, rdS sg (.inr ⟨_, qa⟩), rfl, rfl⟩
    refine d_notIn (by omega) I gg rx fun s3 I3 => ⟨.bl _, H, I3, rfl, ?_⟩
    rw [some_rp ea ra k]
    exact q _ G H (Ext.rfl sg) (by rw [Bool.true_xor]; exact .bl _)
  · obtain ⟨c, h1, rfl⟩ := Option.map_eq_some_iff.mp hF
    have := sign_of h1
    subst this
    cases re
    cases rd
    exact op_notIn_sign pins s σ H _ _ v u Q I rx ry ⟨_, _, rfl, rfl, q _ G H (Ext.rfl sg) (by rw [Bool.true_xor]; exact .bl _)⟩
  · cases hF
theorem hu65 {A : Around} {b : Bool} {k : Nat} (hr : Rb b k A) : A.units + 65 < cLine := by have := hr.rm.un; omega

/-! ### d.get -/
@[simp] def eGet1 (o k : EV) : EV := fun ρ => (o ρ).bind fun d ρ1 => match d with
  | .dic ks => (k ρ1).bind fun y ρ2 => match dKey y with
    | some k => .ok ((lkD ks k).getD .non) ρ2
    | none => .no
  | _ => .no
@[simp] def eGet2 (o k z : EV) : EV := fun ρ => (o ρ).bind fun d ρ1 => match d with
  | .dic ks => (k ρ1).bind fun y ρ2 => (z ρ2).bind fun w ρ3 => match dKey y with
    | some k => .ok ((lkD ks k).getD w) ρ3
    | none => .no
  | _ => .no
theorem getD_rp {G : Hp} {kvs : List (Key × V)} {ks : List (Key × D)} {k : Key} {v : V} {d : D} (e : kvs.map (·.1) = ks.map (·.1)) (r : RpL g G (kvs.map (·.2)) (ks.map (·.2))) (rd : Rp g G v d) : Rp g G ((valV kvs k).getD v) ((lkD ks k).getD d) := by
  have := lk_rp (k := k) e r
  split at this
  · rename_i h; obtain ⟨w, h3, h4⟩ := this; rw [h3, h]; exact h4
  · rename_i h; rw [this, h]; exact rd
variable {o e z : Expr} {apos cpos : Pos} {eo ek ez : EV}
theorem px_get1 (hu : X.A.units + 1 < cLine) (ho : PX X f W o eo) (he : PX X f W e ek) (m : M1 X o "get" apos e cpos) : PX X f W (.Call (.Attribute o "get" apos) [e] [] cpos) (eGet1 eo ek) :=
  PE.imp (pe_dget1 hu ho he m) fun σ H Q ⟨G, ρ, fi, q⟩ => ⟨G, ρ, fi, PostX.bind q fun d ρ1 G1 H1 s1 fi1 q1 v rv => by
    cases rv <;> first | exact q1.elim | skip
    rename_i qa na ea ra
    refine ⟨_, rfl, .inl ⟨_, rdS fi1.gh (.inr ⟨_, qa⟩)⟩, G1, ρ1, fi1, PostX.bind q1 fun y ρ2 G2 H2 s2 fi2 q2 u ru => ?_⟩
    split at q2
    · rename_i k hk
      have ey := key_rp ru hk
      subst ey
      exact ⟨_, .inl ⟨_, k, rdS fi2.gh (rdS s2 (.inr ⟨_, qa⟩)), rfl, rfl⟩, q2 G2 H2 same_rfl fi2 _ (getD_rp ea (ra.up s2) .non)⟩
    · exact q2.elim⟩
theorem px_get2 (hu : X.A.units + 1 < cLine) (ho : PX X f W o eo) (he : PX X f W e ek) (hz : PX X f W z ez) (m : M2 X o "get" apos e z cpos) : PX X f W (.Call (.Attribute o "get" apos) [e, z] [] cpos) (eGet2 eo ek ez) :=
  PE.imp (pe_dget2 hu ho he hz m) fun σ H Q ⟨G, ρ, fi, q⟩ => ⟨G, ρ, fi, PostX.bind q fun d ρ1 G1 H1 s1 fi1 q1 v rv => by
    cases rv <;> first | exact q1.elim | skip
    rename_i qa na ea ra
    refine ⟨_, rfl, .inl ⟨_, rdS fi1.gh (.inr ⟨_, qa⟩)⟩, G1, ρ1, fi1, PostX.bind q1 fun y ρ2 G2 H2 s2 fi2 q2 u ru => ⟨G2, ρ2, fi2, PostX.bind q2 fun w ρ3 G3 H3 s3 fi3 q3 t rt => ?_⟩⟩
    split at q3
    · rename_i k hk
      have ey := key_rp ru hk
      subst ey
      exact ⟨_, .inl ⟨_, k, rdS fi3.gh (rdS s3 (rdS s2 (.inr ⟨_, qa⟩))), rfl, rfl⟩, q3 G3 H3 same_rfl fi3 _ (getD_rp ea ((ra.up s2).up s3) rt)⟩
    · exact q3.elim⟩

/-! ### zip -/
theorem walk_zipB (t u : Bool) {K : PySem.W.Frag} {a b : Addr} {xs ys : List V} {n : Nat} (hn : n = min xs.length ys.length) : Walk (ItzB t u K a b) n (fun H => SqB t K H a xs ∧ SqB u K H b ys) (YPair (fun i => xs[i]?) (fun i => ys[i]?)) := by
  subst hn
  refine ⟨fun i _ hi q => ?_, fun _ q => ⟨xs, ys, q.1, q.2, rfl⟩, fun i H v H' _ q y => ?_⟩
  · have h1 : i < xs.length := by omega
    have h2 : i < ys.length := by omega
    exact ⟨xs, ys, xs[i], ys[i], q.1, q.2, by simp [h1], by simp [h2]⟩
  · obtain ⟨T, x, z, h1, h2, h3, h4, h5⟩ := y
    exact ⟨T, x, z, h1, h2, h3, h4 _ q.1, h5 _ q.2⟩
@[simp] def seqD : D → Option (Bool × List D)
  | .lst xs => some (false, xs)
  | .tup xs => some (true, xs)
  | _ => none
theorem seq_rp {g : Gm} {G : Hp} {v : V} {d : D} {t : Bool} {xs : List D} (r : Rp g G v d) (h : seqD d = some (t, xs)) : ∃ a vs, v = .ref a ∧ RpL g G vs xs ∧ ∀ G2 H2, Same G G2 → Same G2 H2 → SqB t g.K H2 a vs := by
  cases r with
  | tup q n ra => cases h; exact ⟨_, _, rfl, ra, fun G2 H2 s1 s2 => sqTS s2 (sqTS s1 q)⟩
  | lst q n ra => cases h; exact ⟨_, _, rfl, ra, fun G2 H2 s1 s2 => SqL.of (s2 _ _ (s1 _ _ q))⟩
  | _ => cases h
@[simp] def iZip2 (a : AV) : LV := fun ρ => (a ρ).bind fun ds ρ1 => match ds with
  | [x, y] => match seqD x, seqD y with
    | some p, some q => .ok (pairD p.2 q.2) ρ1
    | _, _ => .no
  | _ => .no
theorem pxi_zip2 {e e2 : Expr} {av : AV} {p pos tpos : Pos} {elts : List Expr} {kk : Nat} (ha : PXA X f W [e, e2] av) (hm : X.mg "zip" = none) (hg : Gl X "zip" := by rfl)
    (hs : starEach [e, e2] X.env = (false, eval e X.env) :: starEach [e2] X.env := by rfl) (hpl : (backTo pos (starEach [e2] X.env)).any (·.1) = false := by rfl) (hk : X.K = f.g.K := by rfl) :
    PXI X f W (.Tuple elts kk tpos) (.Call (.Name "zip" p) [e, e2] [] pos) (iZip2 av) :=
  PI.imp (pi_zipB hg hm ha hs hpl) fun σ H R ⟨G, ρ, fi, q⟩ => ⟨G, ρ, fi, PostX.bind q fun ds ρ1 G1 H1 s1 fi1 q1 vs rvs => by
    split at q1
    · split at q1
      · rename_i x y p' q' h1 h2
        obtain ⟨v, w, rfl, rp, rp2⟩ := rpl2 rvs
        obtain ⟨a, xs, rfl, ra, qa⟩ := seq_rp rp h1
        obtain ⟨b, ys, rfl, rb, qb⟩ := seq_rp rp2 h2
        rw [← hk] at qa qb
        refine ⟨p'.1, q'.1, a, b, xs, ys, rfl, qa G1 H1 same_rfl fi1.gh, qb G1 H1 same_rfl fi1.gh, q1 G1 H1 same_rfl fi1 _ (iter_pair (walk_zipB p'.1 q'.1 rfl) ?_ (fun G2 H2 s1 s2 => ⟨qa G2 H2 s1 s2, qb G2 H2 s1 s2⟩) (fun i x e h => ra.get e) fun i x e h => rb.get e)⟩
        rw [pairD_len, ra.len, rb.len]
      · exact q1.elim
    · exact q1.elim⟩
def trioD (xs ys zs : List D) : List D := (xs.zip (ys.zip zs)).map fun p => .tup [p.1, p.2.1, p.2.2]
@[simp] def iZip3 (a : AV) : LV := fun ρ => (a ρ).bind fun ds ρ1 => match ds with
  | [.tup xs, .tup ys, .tup zs] => if xs.length = ys.length ∧ ys.length = zs.length then .ok (trioD xs ys zs) ρ1 else .no
  | _ => .no
theorem rpl3 {G : Hp} {vs : List V} {d e h : D} (r : RpL g G vs [d, e, h]) : ∃ v w u, vs = [v, w, u] ∧ Rp g G v d ∧ Rp g G w e ∧ Rp g G u h := by
  cases r with
  | cons a b =>
    obtain ⟨w, u, rfl, r1, r2⟩ := rpl2 b
    exact ⟨_, _, _, rfl, a, r1, r2⟩
theorem pxi_zip3 {e e2 e3 : Expr} {av : AV} {p pos tpos : Pos} {elts : List Expr} {kk : Nat} (ha : PXA X f W [e, e2, e3] av) (hm : X.mg "zip" = none) (hg : Gl X "zip" := by rfl)
    (hs : starEach [e, e2, e3] X.env = (false, eval e X.env) :: starEach [e2, e3] X.env := by rfl) (hpl : (backTo pos (starEach [e2, e3] X.env)).any (·.1) = false := by rfl) (hk : X.K = f.g.K := by rfl) :
    PXI X f W (.Tuple elts kk tpos) (.Call (.Name "zip" p) [e, e2, e3] [] pos) (iZip3 av) :=
  PI.imp (Gd.pi_zip3 hg hm ha hs hpl) fun σ H R ⟨G, ρ, fi, q⟩ => ⟨G, ρ, fi, PostX.bind q fun ds ρ1 G1 H1 s1 fi1 q1 vs rvs => by
    split at q1
    · split at q1
      · rename_i xs ys zs hl
        obtain ⟨v, w, u, rfl, rp, rp2, rp3⟩ := rpl3 rvs
        cases rp with | tup qa na ra =>
        cases rp2 with | tup qb nb rb =>
        cases rp3 with | tup qc nc rc =>
        have la := ra.len
        have lb := rb.len
        have lc := rc.len
        have hn : (trioD xs ys zs).length = xs.length := by simp [trioD]; omega
        refine ⟨_, _, _, _, _, _, rfl, by rw [hk]; exact sqTS fi1.gh qa, by rw [hk]; exact sqTS fi1.gh qb, by rw [hk]; exact sqTS fi1.gh qc, q1 G1 H1 same_rfl fi1 _ ?_⟩
        rename_i a1 ls1 a2 ls2 a3 ls3
        refine ⟨fun H => SqT X.K H a1 ls1 ∧ SqT X.K H a2 ls2 ∧ SqT X.K H a3 ls3, fun i H v H' => i < xs.length ∧ ∃ T x y z, v = .ref T ∧ H T = none ∧ H' = upd H T (.tup [x, y, z]) ∧ ls1[i]? = some x ∧ ls2[i]? = some y ∧ ls3[i]? = some z, ?_,
          fun G2 H2 s1 s2 => ⟨by rw [hk]; exact sqTS s2 (sqTS s1 qa), by rw [hk]; exact sqTS s2 (sqTS s1 qb), by rw [hk]; exact sqTS s2 (sqTS s1 qc)⟩, fun i H x H' y G2 s1 s2 => ?_⟩
        · rw [hn]
          refine ⟨fun i H hi q => ⟨_, _, _, q.1, q.2.1, q.2.2, by omega, by omega, by omega⟩, fun H q => ⟨_, _, _, q.1, q.2.1, q.2.2, by omega, by omega, by omega⟩, fun i H v H' hi q y => ?_⟩
          obtain ⟨T, x, y, z, h1, h2, h3, h4, h5, h6⟩ := y
          exact ⟨hi, T, x, y, z, h1, h2, h3, h4 _ q.1, h5 _ q.2.1, h6 _ q.2.2⟩
        · obtain ⟨hi, T, x1, x2, x3, rfl, hT, rfl, e1, e2, e3⟩ := y
          obtain ⟨d1, a1, b1⟩ := ra.get e1
          obtain ⟨d2, a2, b2⟩ := rb.get e2
          obtain ⟨d3, a3, b3⟩ := rc.get e3
          have x := Ext.new (o := .tup [x1, x2, x3]) s2 hT
          refine ⟨_, .tup [d1, d2, d3], x, ?_, .tup (SqT.of upd_same) (show 3 ≤ big by decide) (.cons ((b1.up s1).up x.g) (.cons ((b2.up s1).up x.g) (.cons ((b3.up s1).up x.g) .nil)))⟩
          unfold trioD
          rw [List.getElem?_map, show (xs.zip (ys.zip zs))[i]? = some (d1, d2, d3) from List.getElem?_zip_eq_some.mpr ⟨a1, List.getElem?_zip_eq_some.mpr ⟨a2, a3⟩⟩]
          rfl
      · exact q1.elim
    · exact q1.elim⟩

/-! ### a op b op c op d -/
@[simp] def eChain3 (F F' F'' : D → D → Option D) (ea eb ec ed : EV) : EV := fun ρ => (ea ρ).bind fun x ρ1 => (eb ρ1).bind fun y ρ2 => match F x y with
  | some (.bl true) => (ec ρ2).bind fun z ρ3 => match F' y z with
    | some (.bl true) => (ed ρ3).bind fun w ρ4 => Re.opt ρ4 (F'' z w)
    | some (.bl false) => .ok (.bl false) ρ3
    | _ => .no
  | some (.bl false) => .ok (.bl false) ρ2
  | _ => .no
end
end Dx

set_option Elab.async false
set_option linter.all false
set_option maxRecDepth 100000
set_option maxHeartbeats 4000000
/-! the data layer: three comparisons, signs, sorted -/
namespace Dx
open PySem PySem.Spec PyProof.Rows L2 Gd
section
variable {X : Cx} {f : Fm} {W : WX} {g : Gm} {a b c d : Expr} {ea eb ec ed : EV} {F F' F'' : D → D → Option D} {pos : Pos}
theorem pxb_chain3 {op op' op'' : CmpOp} (ho : OpX X f.g (compareOp op) F) (ho' : OpX X f.g (compareOp op') F') (ho'' : OpX X f.g (compareOp op'') F'') (ha : PX X f W a ea) (hb : PX X f W b eb) (hc : PX X f W c ec) (hd : PX X f W d ed)
    (hm : lastMarks [op, op', op''] [b, c, d] = false := by with_unfolding_all rfl) : PXB X f W (.Compare a [op, op', op''] [b, c, d] pos) (bOf (eChain3 F F' F'' ea eb ec ed)) :=
  PT.imp (pt_chain3 ho ho' ho'' ha hb hc hd hm) fun σ H Q h => by
    obtain ⟨G, ρ, fi, q⟩ := tX_bOf h
    refine ⟨G, ρ, fi, q.bind fun x ρ1 G1 H1 s1 fi1 q1 v rv => ⟨G1, ρ1, fi1, q1.bind fun y ρ2 G2 H2 s2 fi2 q2 u ru => ?_⟩⟩
    have hb : ∃ k, F x y = some (.bl k) := by
      cases hF : F x y with
      | none => rw [hF] at q2; exact q2.elim
      | some r => cases r <;> first | exact ⟨_, rfl⟩ | (rw [hF] at q2; exact q2.elim)
    obtain ⟨k, hF⟩ := hb
    rw [hF] at q2
    refine ⟨G2, x, y, .bl k, fi2.gh, rv.up s2, ru, hF, fun w G3 H3 ex rw' => ?_⟩
    cases rw'
    refine ⟨k, rfl, ?_⟩
    cases k with
    | false => exact (q2 G3 H3 ex.g (fi2.ext ex) (V.bl false) (.bl false)).elim fun k ⟨e, q⟩ => by cases e; exact q
    | true =>
      refine ⟨G3, ρ2, fi2.ext ex, PostX.up ex.g (PostX.bind (k := fun z ρ3 => match F' y z with
        | some (.bl true) => (ed ρ3).bind fun w ρ4 => Re.opt ρ4 (F'' z w)
        | some (.bl false) => .ok (.bl false) ρ3
        | _ => .no) q2 fun z ρ3 G4 H4 s4 fi4 q4 w' rz => ?_)⟩
      have hb : ∃ k, F' y z = some (.bl k) := by
        cases hF : F' y z with
        | none => rw [hF] at q4; exact q4.elim
        | some r => cases r <;> first | exact ⟨_, rfl⟩ | (rw [hF] at q4; exact q4.elim)
      obtain ⟨k, hF'⟩ := hb
      rw [hF'] at q4
      refine ⟨G4, y, z, .bl k, fi4.gh, ru.up s4, rz, hF', fun w2 G5 H5 x5 r5 => ?_⟩
      cases r5
      refine ⟨k, rfl, ?_⟩
      cases k with
      | false => exact (q4 G5 H5 x5.g (fi4.ext x5) (V.bl false) (.bl false)).elim fun k ⟨e, q⟩ => by cases e; exact q
      | true =>
        refine ⟨G5, ρ3, fi4.ext x5, PostX.up x5.g (PostX.bind (k := fun w ρ4 => Re.opt ρ4 (F'' z w)) q4 fun w ρ4 G6 H6 s6 fi6 q6 t rt => ?_)⟩
        cases hF'' : F'' z w with
        | none => rw [hF''] at q6; exact q6.elim
        | some r =>
          rw [hF''] at q6
          exact ⟨G6, z, w, r, fi6.gh, rz.up s6, rt, hF'', fun v7 G7 H7 x7 r7 => q6 G7 H7 x7.g (fi6.ext x7) v7 r7⟩
/-- -x -/
@[simp] def eUn (F : D → Option D) (e : EV) : EV := fun ρ => (e ρ).bind fun d ρ1 => Re.opt ρ1 (F d)
def dNeg : D → Option D
  | .int i => some (.int (-i))
  | _ => none
theorem px_neg (h : PX X f W a ea) : PX X f W (.UnaryOp .USub a pos) (eUn dNeg ea) := PE.imp (pe_un un_neg h) fun σ H Q ⟨G, ρ, fi, q⟩ => ⟨G, ρ, fi, PostX.bind q fun d ρ1 G1 H1 s1 fi1 q1 v rv => by
  cases rv <;> first | exact q1.elim | skip
  exact ⟨_, rfl, q1 G1 H1 same_rfl fi1 _ (.int _)⟩⟩
end

/-! ### sorted -/
def kkD : D → Option (List Key)
  | .int i => some [.inl i]
  | .str x => some [.inr x]
  | _ => none
def keysD : List D → Option (List Key)
  | [] => some []
  | d :: r => (dKey d).bind fun k => (keysD r).map fun ks => k :: ks
/-- what is compared: an int, a text, a tuple of these -/
def ordK : D → List Key
  | .int i => [.inl i]
  | .str x => [.inr x]
  | .tup xs => (keysD xs).getD []
  | _ => []
def ltD (x y : D) : Bool := lLt (ordK x) (ordK y)
def ins (x : D) : List D → List D
  | [] => [x]
  | y :: r => if ltD y x = true then y :: ins x r else x :: y :: r
def isort : List D → List D
  | [] => []
  | x :: r => ins x (isort r)
/-- things of one kind -/
def kindD : D → Option (Option (List Bool))
  | .int _ => some none
  | .str _ => some none
  | .tup xs => (keysD xs).map fun ks => some (ks.map tyK)
  | _ => none
def isInt : D → Bool
  | .int _ => true
  | _ => false
def isStr : D → Bool
  | .str _ => true
  | _ => false
def isTupK (τ : List Bool) : D → Bool
  | .tup xs => match keysD xs with
    | some ks => decide (ks.map tyK = τ)
    | none => false
  | _ => false
/-- tuples of one kind, an int first -/
def okTup (xs : List D) : Bool := match xs with
  | .tup ys :: _ => match keysD ys with
    | some ks => decide ((ks.map tyK).head? = some true) && xs.all (isTupK (ks.map tyK))
    | none => false
  | _ => false
def lSorted : List D → Option (List D)
  | [.lst xs] => if xs.all isInt = true then some (isort xs) else if okTup xs = true then some (isort xs) else none
  | [.tup xs] => if okTup xs = true then some (isort xs) else if xs.isEmpty then some [] else none
  | _ => none
theorem ins_perm (x : D) : ∀ l : List D, (ins x l).Perm (x :: l)
  | [] => .refl _
  | y :: r => by
    unfold ins
    split
    · exact ((ins_perm x r).cons y).trans (.swap x y r)
    · exact .refl _
theorem isort_perm : ∀ l : List D, (isort l).Perm l
  | [] => .refl _
  | x :: r => (ins_perm x (isort r)).trans ((isort_perm r).cons x)
abbrev SrtD (l : List D) : Prop := l.Pairwise fun x y => ltD y x = false
theorem ltD_as {x y : D} (h : ltD x y = true) : ltD y x = false := lLt_as h
theorem ltD_tr {x y z : D} (h : ltD x y = true) (h2 : ltD y z = true) : ltD x z = true := lLt_tr h h2
theorem ltD_neg {x y z : D} (h : ltD y x = false) (h2 : ltD z y = false) : ltD z x = false := (swo_l (fun d => ordK d)).tr x y z h h2
theorem ins_srt (x : D) : ∀ {l : List D}, SrtD l → SrtD (ins x l)
  | [], _ => List.pairwise_singleton _ _
  | y :: r, h => by
    obtain ⟨h1, h2⟩ := List.pairwise_cons.mp h
    unfold ins
    split
    · rename_i c
      refine List.pairwise_cons.mpr ⟨fun z hz => ?_, ins_srt x h2⟩
      rcases List.mem_cons.mp ((ins_perm x r).mem_iff.mp hz) with rfl | hz
      · exact ltD_as c
      · exact h1 z hz
    · rename_i c
      have c' : ltD y x = false := by simpa using c
      refine List.pairwise_cons.mpr ⟨fun z hz => ?_, h⟩
      rcases List.mem_cons.mp hz with rfl | hz
      · exact c'
      · exact ltD_neg c' (h1 z hz)
theorem isort_srt : ∀ l : List D, SrtD (isort l)
  | [] => .nil
  | x :: r => ins_srt x (isort_srt r)
theorem srt_one : ∀ {l m : List D}, (∀ x ∈ l, ∀ y ∈ l, ordK x = ordK y → x = y) → l.Perm m → SrtD l → SrtD m → l = m
  | [], m, _, p, _, _ => p.nil_eq
  | x :: r, [], _, p, _, _ => p.eq_nil
  | x :: r, y :: t, inj, p, h1, h2 => by
    obtain ⟨a1, a2⟩ := List.pairwise_cons.mp h1
    obtain ⟨b1, b2⟩ := List.pairwise_cons.mp h2
    have my : y ∈ x :: r := p.mem_iff.mpr List.mem_cons_self
    have mx : x ∈ y :: t := p.mem_iff.mp List.mem_cons_self
    have e : x = y := by
      rcases List.mem_cons.mp mx with e | m1
      · exact e
      · rcases List.mem_cons.mp my with e | m2
        · exact e.symm
        · have n1 := a1 y m2
          have n2 := b1 x m1
          refine inj x List.mem_cons_self y my (Classical.byContradiction fun ne => ?_)
          have := lLt_tri ne n2
          unfold ltD at n1
          rw [n1] at this
          cases this
    subst e
    rw [srt_one (fun u hu v hv => inj u (List.mem_cons_of_mem _ hu) v (List.mem_cons_of_mem _ hv)) p.cons_inv a2 b2]
theorem keysD_inj : ∀ {xs ys : List D} {ks : List Key}, keysD xs = some ks → keysD ys = some ks → xs = ys
  | [], [], _, _, _ => rfl
  | [], y :: ys, ks, h, h' => by
    unfold keysD at h h'
    cases h
    obtain ⟨k, _, h2⟩ := Option.bind_eq_some_iff.mp h'
    obtain ⟨l, _, e⟩ := Option.map_eq_some_iff.mp h2
    cases e
  | x :: xs, [], ks, h, h' => by
    unfold keysD at h h'
    cases h'
    obtain ⟨k, _, h2⟩ := Option.bind_eq_some_iff.mp h
    obtain ⟨l, _, e⟩ := Option.map_eq_some_iff.mp h2
    cases e
  | x :: xs, y :: ys, ks, h, h' => by
    unfold keysD at h h'
    obtain ⟨k, h1, h2⟩ := Option.bind_eq_some_iff.mp h
    obtain ⟨l, h3, e⟩ := Option.map_eq_some_iff.mp h2
    obtain ⟨k', h1', h2'⟩ := Option.bind_eq_some_iff.mp h'
    obtain ⟨l', h3', e'⟩ := Option.map_eq_some_iff.mp h2'
    subst e
    cases e'
    rw [keysD_inj h3 h3']
    have : x = y := by
      cases x <;> simp only [dKey, Option.some.injEq, reduceCtorEq] at h1 <;> subst h1 <;> cases y <;> simp only [dKey, Option.some.injEq, reduceCtorEq, Sum.inl.injEq, Sum.inr.injEq] at h1' <;> rw [h1']
    rw [this]
theorem ordK_int {xs : List D} (h : xs.all isInt = true) : ∀ x ∈ xs, ∀ y ∈ xs, ordK x = ordK y → x = y := by
  intro x hx y hy e
  have h1 := List.all_eq_true.mp h x hx
  have h2 := List.all_eq_true.mp h y hy
  cases x <;> first | cases h1 | skip
  cases y <;> first | cases h2 | skip
  simp only [ordK, List.cons.injEq, Sum.inl.injEq, and_true] at e
  rw [e]
theorem isTupK_of {τ : List Bool} {x : D} (h : isTupK τ x = true) : ∃ ys ks, x = .tup ys ∧ keysD ys = some ks ∧ ks.map tyK = τ := by
  cases x <;> first | cases h | skip
  rename_i ys
  simp only [isTupK] at h
  split at h
  · rename_i ks e
    exact ⟨ys, ks, rfl, e, of_decide_eq_true h⟩
  · cases h
theorem okTup_of {xs : List D} (h : okTup xs = true) : ∃ τ : List Bool, τ.head? = some true ∧ ∀ x ∈ xs, isTupK τ x = true := by
  unfold okTup at h
  split at h
  · split at h
    · rename_i ks e
      simp only [Bool.and_eq_true, decide_eq_true_eq] at h
      exact ⟨_, h.1, List.all_eq_true.mp h.2⟩
    · cases h
  · cases h
theorem ordK_tup {τ : List Bool} {xs : List D} (h : ∀ x ∈ xs, isTupK τ x = true) : ∀ x ∈ xs, ∀ y ∈ xs, ordK x = ordK y → x = y := by
  intro x hx y hy e
  obtain ⟨a, ks1, rfl, e1, _⟩ := isTupK_of (h x hx)
  obtain ⟨b, ks2, rfl, e2, _⟩ := isTupK_of (h y hy)
  simp only [ordK, e1, e2, Option.getD_some] at e
  subst e
  rw [keysD_inj e1 e2]
section
variable {X : Cx} {g : Gm} {G : Hp}
theorem rpl_keys : ∀ {vs : List V} {ds : List D} {ks : List Key}, RpL g G vs ds → keysD ds = some ks → vs = ks.map kV
  | _, _, _, .nil, h => by unfold keysD at h; cases h; rfl
  | _, _, ks, .cons a b, h => by
    unfold keysD at h
    obtain ⟨k, h1, h2⟩ := Option.bind_eq_some_iff.mp h
    obtain ⟨l, h3, rfl⟩ := Option.map_eq_some_iff.mp h2
    rw [rpl_keys b h3, key_rp a h1]; rfl
/-- a rearrangement of the values is one of the data -/
theorem rpl_perm : ∀ {vs ys : List V} {ds : List D}, ys.Perm vs → RpL g G vs ds → ∃ es, es.Perm ds ∧ RpL g G ys es := by
  intro vs ys ds p
  induction p generalizing ds with
  | nil => intro r; exact ⟨ds, .refl _, r⟩
  | cons x _ ih =>
    intro r
    cases r with
    | cons a b =>
      obtain ⟨es, h1, h2⟩ := ih b
      exact ⟨_, h1.cons _, .cons a h2⟩
  | swap x y l =>
    intro r
    cases r with
    | cons a b =>
      cases b with
      | cons c d => exact ⟨_, .swap _ _ _, .cons c (.cons a d)⟩
  | trans _ _ ih1 ih2 =>
    intro r
    obtain ⟨es, h1, h2⟩ := ih2 r
    obtain ⟨fs, h3, h4⟩ := ih1 h2
    exact ⟨fs, h3.trans h1, h4⟩
theorem okSort_perm_int {xs : List D} (h : xs.all isInt = true) : ∃ ns : List Int, xs = ns.map D.int := by
  induction xs with
  | nil => exact ⟨[], rfl⟩
  | cons x r ih =>
    rw [List.all_cons, Bool.and_eq_true] at h
    obtain ⟨ns, e⟩ := ih h.2
    cases x <;> first | cases h.1 | skip
    exact ⟨_ :: ns, by rw [e]; rfl⟩
theorem okSort_perm_str {xs : List D} (h : xs.all isStr = true) : ∃ ns : List Str, xs = ns.map D.str := by
  induction xs with
  | nil => exact ⟨[], rfl⟩
  | cons x r ih =>
    rw [List.all_cons, Bool.and_eq_true] at h
    obtain ⟨ns, e⟩ := ih h.2
    cases x <;> first | cases h.1 | skip
    exact ⟨_ :: ns, by rw [e]; rfl⟩
theorem rpl_mapI : ∀ (ns : List Int), RpL g G (ns.map V.int) (ns.map D.int)
  | [] => .nil
  | n :: r => .cons (.int n) (rpl_mapI r)
theorem rpl_mapI' : ∀ {vs : List V} (ns : List Int), RpL g G vs (ns.map D.int) → vs = ns.map V.int
  | _, [], h => by cases h; rfl
  | _, n :: r, h => by
    cases h with
    | cons a b => cases a; rw [rpl_mapI' r b]; rfl
theorem rpl_mapS' : ∀ {vs : List V} (ns : List Str), RpL g G vs (ns.map D.str) → vs = ns.map V.str
  | _, [], h => by cases h; rfl
  | _, n :: r, h => by
    cases h with
    | cons a b => cases a; rw [rpl_mapS' r b]; rfl
theorem ltD_int (a b : Int) : ltD (.int a) (.int b) = decide (a < b) := by
  unfold ltD ordK lLt
  by_cases h : a = b
  · simp [lLt, kLt, h]
  · simp [lLt, kLt, h]
theorem okSort_ints {xs : List D} (h : xs.all isInt = true) : ∃ ns : List Int, xs = ns.map D.int := okSort_perm_int h
theorem srt_ints : ∀ {ns : List Int}, ns.Pairwise (· ≤ ·) → SrtD (ns.map D.int)
  | [], _ => .nil
  | n :: r, h => by
    obtain ⟨h1, h2⟩ := List.pairwise_cons.mp h
    refine List.pairwise_cons.mpr ⟨fun z hz => ?_, srt_ints h2⟩
    obtain ⟨m, hm, rfl⟩ := List.mem_map.mp hz
    rw [ltD_int]
    exact decide_eq_false (by have := h1 m hm; omega)
/-- the places of a tuple's value -/
noncomputable def kOfV (K : PySem.W.Frag) (H : Hp) (v : V) : List Key := Classical.epsilon fun ks => ∃ t, v = V.ref t ∧ SqT K H t (ks.map kV)
theorem kV_inj : ∀ {ks ls : List Key}, ks.map kV = ls.map kV → ks = ls
  | [], [], _ => rfl
  | [], _ :: _, h => nomatch h
  | _ :: _, [], h => nomatch h
  | a :: x, b :: y, h => by
    have h' : kV a = kV b ∧ x.map kV = y.map kV := List.cons.inj h
    rw [kV_inj h'.2]
    have : a = b := by
      have q := h'.1
      cases a <;> cases b <;> simp only [kV, V.int.injEq, V.str.injEq, reduceCtorEq] at q <;> rw [q]
    rw [this]
theorem RpL.ofMem : ∀ {vs : List V} {ds : List D} {d : D}, RpL g G vs ds → d ∈ ds → ∃ v ∈ vs, Rp g G v d
  | _, _, _, .cons a b, h => by
    rcases List.mem_cons.mp h with rfl | h
    · exact ⟨_, List.mem_cons_self, a⟩
    · obtain ⟨v, hv, r⟩ := RpL.ofMem b h
      exact ⟨v, List.mem_cons_of_mem _ hv, r⟩
theorem RpL.mem : ∀ {vs : List V} {ds : List D} {v : V}, RpL g G vs ds → v ∈ vs → ∃ d ∈ ds, Rp g G v d
  | _, _, _, .cons a b, h => by
    rcases List.mem_cons.mp h with rfl | h
    · exact ⟨_, List.mem_cons_self, a⟩
    · obtain ⟨v, hv, r⟩ := RpL.mem b h
      exact ⟨v, List.mem_cons_of_mem _ hv, r⟩
theorem rp_ordK {pins : List (Addr × Obj)} {σ : L2.St} {H : Hp} {s : Shared} {τ : List Bool} (I : Inv X pins σ H s) (sg : Same G H) (hK : X.K = g.K) {v : V} {d : D} (r : Rp g G v d) (h : isTupK τ d = true) : kOfV X.K H v = ordK d := by
  obtain ⟨ys, ks, rfl, e, ht⟩ := isTupK_of h
  cases r with
  | tup s n r =>
    rename_i a xs
    rw [rpl_keys r e] at s
    have s' : SqT X.K H a (ks.map kV) := by rw [hK]; exact sqTS sg s
    have w : ∃ t, V.ref a = V.ref t ∧ SqT X.K H t ((kOfV X.K H (V.ref a)).map kV) := Classical.epsilon_spec (p := fun ks => ∃ t, V.ref a = V.ref t ∧ SqT X.K H t (ks.map kV)) ⟨ks, a, rfl, s'⟩
    obtain ⟨t, et, st⟩ := w
    cases et
    rw [kV_inj (I.tuple_inj st s')]
    simp only [ordK, e, Option.getD_some]
theorem srt_of {K : PySem.W.Frag} {H : Hp} : ∀ {vs : List V} {ds : List D}, RpL g G vs ds → (∀ v d, v ∈ vs → d ∈ ds → Rp g G v d → kOfV K H v = ordK d) → SrtO.Srtd (fun x y => lLt (kOfV K H x) (kOfV K H y)) vs → SrtD ds
  | _, _, .nil, _, _ => .nil
  | v :: vs, d :: ds, .cons a b, h, q => by
    obtain ⟨q1, q2⟩ := List.pairwise_cons.mp q
    refine List.pairwise_cons.mpr ⟨fun z hz => ?_, srt_of b (fun v d hv hd => h v d (List.mem_cons_of_mem _ hv) (List.mem_cons_of_mem _ hd)) q2⟩
    obtain ⟨u, hu, ru⟩ : ∃ u ∈ vs, Rp g G u z := b.ofMem hz
    have : lLt (kOfV K H u) (kOfV K H v) = false := q1 u hu
    rw [h v d List.mem_cons_self List.mem_cons_self a, h u z (List.mem_cons_of_mem _ hu) (List.mem_cons_of_mem _ hz) ru] at this
    exact this
theorem sorted_tup {pins : List (Addr × Obj)} {s : Shared} {σ : L2.St} {H : Hp} {us : List Value} {Q : VK} {a : Addr} {vs : List V} {xs : List D} (hK : X.K = g.K) (I : Inv X pins σ H s) (rv : Vals [V.ref a] us) (sg : Same G H) (hs : SqL X.K H a vs ∨ SqT X.K H a vs) (r : RpL g G vs xs) (ok : okTup xs = true)
    (q : ∀ ws p, RpL g G ws (isort xs) → H p = none → Q (.ref p) (upd H p (.lst ws))) : ∃ (h : rSortTup X.K [V.ref a] H Q), True := by
  obtain ⟨τ, hτ, hx⟩ := okTup_of ok
  refine ⟨⟨a, vs, kOfV X.K H, τ, rfl, hs, hτ, fun v hv => ?_, fun ys p h1 h2 hp => ?_⟩, trivial⟩
  · obtain ⟨d, hd, rd⟩ : ∃ d ∈ xs, Rp g G v d := r.mem hv
    have e := rp_ordK I sg hK rd (hx d hd)
    obtain ⟨zs, ks, rfl, e1, e2⟩ := isTupK_of (hx d hd)
    have e3 : ordK (.tup zs) = ks := by simp only [ordK, e1, Option.getD_some]
    cases rd with
    | tup st n rr =>
      rw [rpl_keys rr e1] at st
      exact ⟨_, rfl, by rw [e, e3, hK]; exact sqTS sg st, by rw [e, e3]; exact e2⟩
  · obtain ⟨es, hp2, hr⟩ := rpl_perm h2 r
    have hs2 : SrtD es := srt_of (K := X.K) (H := H) hr (fun v d hv hd rr => rp_ordK I sg hK rr (hx d (hp2.mem_iff.mp hd))) h1
    have hes : es = isort xs := srt_one (fun u hu v hv => ordK_tup hx u (hp2.mem_iff.mp hu) v (hp2.mem_iff.mp hv)) (hp2.trans (isort_perm xs).symm) hs2 (isort_srt xs)
    rw [hes] at hr
    exact q ys p hr hp
theorem cf_sorted (hK : X.K = g.K := by rfl) : CallR X (.builtin "sorted") (rXAF g lSorted) := by
  intro pins s σ H vs us Q I rv ⟨G, ds, r, sg, rd, hF, q⟩
  unfold lSorted at hF
  split at hF
  · rename_i xs
    obtain ⟨v, rfl, rp⟩ := rpl1 rd
    cases rp with | lst qa na ra =>
    split at hF
    · rename_i hi
      cases hF
      obtain ⟨ns, rfl⟩ := okSort_perm_int hi
      have e := rpl_mapI' ns ra
      subst e
      refine L2.cr_sortedI pins s σ H _ us Q I rv ⟨_, ns, rfl, SqL.of (sg _ _ qa), fun ns' p hp hle hn => q _ p ?_ hn⟩
      have hes : ns'.map D.int = isort (ns.map D.int) := srt_one (fun u hu v hv => ordK_int hi u ((hp.map D.int).mem_iff.mp hu) v ((hp.map D.int).mem_iff.mp hv)) ((hp.map D.int).trans (isort_perm _).symm) (srt_ints hle) (isort_srt _)
      rw [← hes]
      exact rpl_mapI ns'
    · split at hF
      · rename_i ok
        cases hF
        obtain ⟨h, _⟩ := sorted_tup hK I rv sg (.inl (SqL.of (sg _ _ qa))) ra ok q
        exact cr_sortTup pins s σ H _ us Q I rv h
      · cases hF
  · rename_i xs
    obtain ⟨v, rfl, rp⟩ := rpl1 rd
    cases rp with | tup qa na ra =>
    split at hF
    · rename_i ok
      cases hF
      obtain ⟨h, _⟩ := sorted_tup hK I rv sg (.inr (by rw [hK]; exact sqTS sg qa)) ra ok q
      exact cr_sortTup pins s σ H _ us Q I rv h
    · split at hF
      · rename_i he
        cases hF
        have e0 : xs = [] := List.isEmpty_iff.mp he
        subst e0
        cases ra
        refine cr_sortTup pins s σ H _ us Q I rv ⟨_, [], fun _ => [], [true], rfl, .inr (by rw [hK]; exact sqTS sg qa), rfl, fun x hx => (nomatch hx), fun ys p _ hp hn => ?_⟩
        rw [hp.eq_nil]
        exact q [] p .nil hn
      · cases hF
  · cases hF
end
end Dx

set_option Elab.async false
set_option linter.all false
set_option maxRecDepth 100000
set_option maxHeartbeats 4000000
/-! the data layer: calls with keywords; defs with *rest, keyword-only parameters, **more -/
namespace Dx
open PySem PySem.Spec PyProof.Rows L2 Gd

abbrev FnK := List D → List D → FR
def spK (g : Gm) (m : FnK) : SpK := fun vs zs H Q E => ∃ G ds es, Same G H ∧ RpL g G vs ds ∧ RpL g G zs es ∧ PostR g [] G H Q E (m ds es)
def CalK (P : Program) (w : World) (K : PySem.W.Frag) (mg : Str → Option Value) (base : Heap) (x : Str) (b : Bool) (k : Nat) (ks : List Str) (m : FnK) : Prop :=
  ∃ fa, FnG P w K mg base b k fa ks (spK ⟨K, mg⟩ m) ∧ mg x = some (.ref fa) ∧ PySem.W.keepIn K (.ref fa) = true
section
variable {X : Cx} {f : Fm} {W : WX}
def PXK (X : Cx) (f : Fm) (W : WX) (kws : List Keyword) (av : AV) : Prop := PK X kws (tXA f W av)
variable {e : Expr} {ev : EV} {kws : List Keyword} {av kv : AV} {nm : Option Str} {kp : Pos}
theorem pxk_nil : PXK X f W [] aNil := by
  have h : PXA X f W [] aNil := pxa_nil
  refine ⟨fun pos pins s σ H Q I q => ?_⟩
  refine pk_nil.run pos pins s σ H Q I ?_
  obtain ⟨G, ρ, fi, q⟩ := q
  exact q G H same_rfl fi [] .nil
theorem PK.imp {t t' : TA} (h : PK X kws t) (q : ∀ σ H Q, t' σ H Q → t σ H Q) : PK X kws t' := ⟨fun pos pins s σ H Q I z => h.run pos pins s σ H Q I (q σ H Q z)⟩
theorem pxk_cons (h : PX X f W e ev) (hr : PXK X f W kws kv) : PXK X f W (⟨nm, e, kp⟩ :: kws) (aCons ev kv) :=
  PK.imp (pk_cons h hr) fun σ H Q ⟨G, ρ, fi, q⟩ => ⟨G, ρ, fi, PostX.bind q fun d ρ1 G1 H1 s1 fi1 q1 v rv => ⟨G1, ρ1, fi1, PostX.bind q1 fun ds ρ2 G2 H2 s2 fi2 q2 vs rvs => q2 G2 H2 same_rfl fi2 _ (.cons (rv.up s2) rvs)⟩⟩
/-- a call with keywords -/
@[simp] def eCallK (m : FnK) (a k : AV) : EV := fun ρ => (a ρ).bind fun ds ρ1 => (k ρ1).bind fun es ρ2 => match m ds es with
  | .ok d _ => .ok d ρ2
  | .er e _ => .er e ρ2
  | _ => .no
/-- one whose positions alone are passed -/
@[simp] def eCallP (m : FnK) (a : AV) : EV := fun ρ => (a ρ).bind fun ds ρ1 => match m ds [] with
  | .ok d _ => .ok d ρ1
  | .er e _ => .er e ρ1
  | _ => .no
variable {b : Bool} {k : Nat} {ks : List Str} {m : FnK} {x : Str} {es : List Expr} {p pos : Pos}
theorem postR_no {g : Gm} {ps : List Addr} {G H : Hp} {Q : VK} {E : XK} : ¬ PostR g ps G H Q E .no := id
theorem px_callK (C : CalK X.prog X.w X.K X.mg X.base x b k ks m) (hr : Rb b k X.A) (ha : PXA X f W (e :: es) av) (hk : PXK X f W kws kv) (tk : Takes X W) (hl : kws.length = ks.length := by rfl) (hkl : ∀ ρ ds ρ', kv ρ = .ok ds ρ' → ds.length = ks.length)
    (hall : (backToKw pos (keywordEach kws X.env)).all (·.1.isSome) = true := by rfl) (hks : (backToKw pos (keywordEach kws X.env)).filterMap (·.1) = ks := by rfl) (eg : f.g = ⟨X.K, X.mg⟩ := by rfl) (hg : Gl X x := by rfl)
    (hdb : (x == ("__debug__" : Str)) = false := by decide) (he : starEach (e :: es) X.env = (false, eval e X.env) :: starEach es X.env := by rfl)
    (hpl : ((backTo pos (starEach (e :: es) X.env)).any (·.1) || (backToKw pos (keywordEach kws X.env)).any (·.1.isNone)) = false := by rfl) : PX X f W (.Call (.Name x p) (e :: es) kws pos) (eCallK m av kv) := by
  obtain ⟨fa, F, hm, hkeep⟩ := C
  refine ⟨fun pins s σ H Q I ⟨G, ρ, fi, q⟩ => ?_⟩
  refine wpAny_Call_Name_kw (ld_glob I hg hm ?_ hdb)
  refine PySem.W.callWith_KW (h₀ := X.base) I.ok.mod.kin hkeep hall (thn (ha.run pos pins s σ H (fun vs H1 => tXA f W kv σ H1 fun zs H2 => zs.length = ks.length ∧ spK f.g m vs zs H2 Q (WE W σ)) I ⟨G, ρ, fi, PostX.bind q fun ds ρ1 G1 H1 s1 fi1 q1 vs rvs => ⟨G1, ρ1, fi1, ?_⟩⟩) fun us s1 ⟨vs, H1, I1, r, q⟩ => ?_) hpl he
  · cases hkv : kv ρ1 with
    | no => rw [hkv] at q1; exact q1.elim
    | er e ρ2 => rw [hkv] at q1; exact q1
    | ok es ρ2 =>
      rw [hkv] at q1
      intro G2 H2 s2 fi2 zs rzs
      have q2 := PostX.up s2 (show PostX f W σ G1 _ (match m ds es with | .ok d _ => .ok d ρ2 | .er e _ => .er e ρ2 | _ => .no) from q1)
      refine ⟨by rw [rzs.len]; exact hkl _ _ _ hkv, G2, ds, es, fi2.gh, rvs.up s2, rzs, ?_⟩
      have ext : ∀ {G' H' : Hp}, Grow [] G2 H2 G' H' → Same G' H' → Ext G2 H2 G' H' := fun gr sg => ⟨gr.g, fun b o e => gr.h b o (by simp) e, sg, gr.f⟩
      cases hm2 : m ds es with
      | ok d cs =>
        rw [hm2] at q2
        exact fun v G' H' gr sg _ rp => q2 G' H' gr.g (fi2.ext (ext gr sg)) v rp
      | er er cs =>
        rw [hm2] at q2
        exact fun cls dd G' H' gr sg _ rp => q2 cls dd G' H' gr.g (fi2.ext (ext gr sg)) rp
      | okc c cs => rw [hm2] at q2; exact q2.elim
      | no => rw [hm2] at q2; exact q2.elim
  · refine thn (hk.run pos pins s1 σ H1 _ I1 q) fun ws s2 ⟨zs, H2, I2, rz, hl2, q2⟩ => ⟨I2.kIn, ?_⟩
    rw [hks]
    rw [eg] at q2
    exact run_fng F hr (passAt tk σ) I2 r rz hl2 q2
theorem px_callP (C : CalK X.prog X.w X.K X.mg X.base x b k [] m) (hr : Rb b k X.A) (ha : PXA X f W (e :: es) av) (tk : Takes X W) (eg : f.g = ⟨X.K, X.mg⟩ := by rfl) (hg : Gl X x := by rfl)
    (hdb : (x == ("__debug__" : Str)) = false := by decide) (he : starEach (e :: es) X.env = (false, eval e X.env) :: starEach es X.env := by rfl) (hpl : (backTo pos (starEach es X.env)).any (·.1) = false := by rfl) :
    PX X f W (.Call (.Name x p) (e :: es) [] pos) (eCallP m av) := by
  obtain ⟨fa, F, hm, hkeep⟩ := C
  refine ⟨fun pins s σ H Q I ⟨G, ρ, fi, q⟩ => ?_⟩
  refine wpAny_Call_Name_kw (ld_glob I hg hm ?_ hdb)
  refine PySem.W.callWith_K (h₀ := X.base) I.ok.mod.kin hkeep (thn (ha.run pos pins s σ H (fun vs H1 => spK f.g m vs [] H1 Q (WE W σ)) I ⟨G, ρ, fi, PostX.bind q fun ds ρ1 G2 H2 s1 fi2 q2 vs rvs => ?_⟩) fun us s1 ⟨vs, H1, I1, r, q⟩ => ⟨I1.kIn, ?_⟩) he hpl
  · refine ⟨G2, ds, [], fi2.gh, rvs, .nil, ?_⟩
    have ext : ∀ {G' H' : Hp}, Grow [] G2 H2 G' H' → Same G' H' → Ext G2 H2 G' H' := fun gr sg => ⟨gr.g, fun b o e => gr.h b o (by simp) e, sg, gr.f⟩
    cases hm2 : m ds [] with
    | ok d cs =>
      rw [hm2] at q2
      exact fun v G' H' gr sg _ rp => q2 G' H' gr.g (fi2.ext (ext gr sg)) v rp
    | er er cs =>
      rw [hm2] at q2
      exact fun cls dd G' H' gr sg _ rp => q2 cls dd G' H' gr.g (fi2.ext (ext gr sg)) rp
    | okc c cs => rw [hm2] at q2; exact q2.elim
    | no => rw [hm2] at q2; exact q2.elim
  · rw [eg] at q
    exact run_fng (ks := []) (ws := []) (zs := []) F hr (passAt tk σ) I1 r .nil rfl q
end

/-! ### binding -/
theorem grow_trans {ps : List Addr} {G0 H0 G1 H1 G2 H2 : Hp} (a : Grow [] G0 H0 G1 H1) (b : Grow ps G1 H1 G2 H2) (hps : ps = []) : Grow [] G0 H0 G2 H2 := by
  subst hps
  exact ⟨same_trans a.g b.g, fun p o n e => b.h p o n (a.h p o n e), fun p hp => (b.f p fun z => by
    cases e : H0 p with
    | none => exact hp e
    | some o => rw [a.h p o (by simp) e] at z; cases z).trans (a.f p hp)⟩
theorem grow_ext {G H G' H' : Hp} (x : Ext G H G' H') : Grow [] G H G' H' := ⟨x.g, fun p o _ e => x.h p o e, x.f⟩
theorem PostR.mono {g : Gm} {G H G' H' : Hp} {Q : VK} {E : XK} (x : Ext G H G' H') : ∀ {r : FR}, (∀ c cs, r ≠ .okc c cs) → PostR g [] G H Q E r → PostR g [] G' H' Q E r
  | .ok d cs, _, h => fun v G2 H2 gr sg cr rp => h v G2 H2 (grow_trans (grow_ext x) gr rfl) sg cr rp
  | .er e cs, _, h => fun cls dd G2 H2 gr sg cr rp => h cls dd G2 H2 (grow_trans (grow_ext x) gr rfl) sg cr rp
  | .okc c cs, hn, _ => absurd rfl (hn c cs)
  | .no, _, h => h.elim
def noC : FR → FR
  | .okc _ _ => .no
  | r => r
theorem noC_ne (r : FR) : ∀ c cs, noC r ≠ .okc c cs := by
  cases r <;> simp [noC]
theorem noC_of {g : Gm} {ps : List Addr} {G H : Hp} {Q : VK} {E : XK} {r : FR} (h : PostR g ps G H Q E (noC r)) : PostR g ps G H Q E r := by
  cases r <;> first | exact h | exact h.elim
section
variable {P : Program} {w : World} {K : PySem.W.Frag} {mg : Str → Option Value} {base : Heap} {b : Bool} {k : Nat} {f : Addr} {name qual : Str} {params : Arguments} {body : List Stmt} {scope : Scope} {kws : List (Str × V)} {fd : FuncData} {N qs ks : List Str} {pv : Str} {sv : SV}
/-- what a def does with its parameters -/
theorem spF_run {g : Gm} {np : Nat} {H : Hp} {vs : List V} {ds : List D} {Q : VK} {E : XK} {G : Hp} {m : Fn} (sg : Same G H) (r : RpL g G vs ds) (hl : vs.length = np) (h : PostR g [] G H Q E (m [] ds)) : spF g 0 np m vs H Q E :=
  ⟨hl, G, [], [], vs, ds, rfl, rfl, List.nodup_nil, sg, .nil, r, h⟩
/-- def f(a, .., *v, d = x, ..), called with n positions at least and the keywords ks -/
theorem fnxS (F : FunD K name qual params body scope [] kws f fd) (S : FnScope N (qs ++ [pv]) scope) (n : Nat) (ks : List Str) (ms : List (Str × V)) (dd : List D) (g : {α : Type} → List α → List α → List α → List α) (hms : ∀ q ∈ ms, q ∈ kws) (hdd : ∀ G, RpL ⟨K, mg⟩ G (ms.map (·.2)) dd)
    (hrel : ∀ {vs mz zs : List V} {us mv ws : List Value}, Vals vs us → Vals mz mv → Vals zs ws → Vals (g vs mz zs) (g us mv ws))
    (hrp : ∀ {G : Hp} {vs mz zs : List V} {us mv ws : List D}, RpL ⟨K, mg⟩ G vs us → RpL ⟨K, mg⟩ G mz mv → RpL ⟨K, mg⟩ G zs ws → RpL ⟨K, mg⟩ G (g vs mz zs) (g us mv ws))
    (hgl : ∀ {α : Type} (us mv ws : List α), us.length = n → mv.length = ms.length → ws.length = ks.length → (g us mv ws).length = qs.length)
    (hb : ∀ (D : Addr) (kV doc pm : Value) (an : Option Addr) (cdv ct : Value) (us rest mv ws : List Value), (kV = .ref D ∨ kws = []) → us.length = n → mv.length = ms.length → ws.length = ks.length →
      KwC D ((ms.map (·.1)).zip mv) (bindArgs (PySem.W.fnOf name qual params body scope .none kV doc pm an cdv ct) ⟨us ++ rest, ks.zip ws⟩) (newTuple rest >>= fun t => pure (qs.zip (g us mv ws) ++ [(pv, t)])))
    (B : BodyX P w K mg base b k N qual scope f body sv) :
    FnG P w K mg base b (k + 1) f ks (spK ⟨K, mg⟩ fun ds es => if n ≤ ds.length ∧ es.length = ks.length ∧ ds.length ≤ big then noC (fnB N.length 0 (qs.length + 1) sv [] (g (ds.take n) dd es ++ [.tup (ds.drop n)])) else .no) := by
  obtain ⟨oc, od, dV, kV, doc, pm, an, cdv, ct, osl, rfl, lk, hcd, hD, hK⟩ := F.ex
  rcases hD with ⟨_, rfl⟩ | ⟨e, _⟩
  rotate_left
  · exact absurd rfl e
  obtain ⟨D, hkv, mv, ml, mr, mq⟩ : ∃ (D : Addr), (kV = .ref D ∨ kws = []) ∧ ∃ mv : List Value, mv.length = ms.length ∧ Vals (ms.map (·.2)) mv ∧ ∀ q ∈ (ms.map (·.1)).zip mv, PySem.W.nsIn K D q.1 = some (some q.2) := by
    rcases hK with e | ⟨D, rfl, hq⟩
    · have e0 : ms = [] := List.eq_nil_iff_forall_not_mem.mpr fun q hq => by have := hms q hq; rw [e] at this; cases this
      subst e0
      exact ⟨0, .inr e, [], rfl, .nil, fun q hq => by cases hq⟩
    · exact ⟨D, .inl rfl, kwd_vals (ms := ms) fun q hm => hq q (hms q hm)⟩
  intro A outer s H us ws vs zs Q E hr e0 r rz hzl ⟨G, ds, es, sg, rd, re, post⟩
  dsimp only at post
  split at post
  rotate_left
  · exact post.elim
  rename_i hc
  obtain ⟨hn, hel, hbig⟩ := hc
  have kin : K.In s.heap := e0.mod.kin.keeps fun b o e => (e0.bs b o e).1
  have hnn : H s.heap.objs.size = none := e0.hok.fresh (Nat.le_refl _)
  have hvl : n ≤ vs.length := by rw [rd.len]; exact hn
  obtain ⟨u1, u2, eu, r1, r2⟩ : ∃ u1 u2, us = u1 ++ u2 ∧ Vals (vs.take n) u1 ∧ Vals (vs.drop n) u2 := by
    have := StX.vals_split (ws := vs.take n) (rest := vs.drop n) (us := us) (by rw [List.take_append_drop]; exact r)
    obtain ⟨u1, u2, a, b, c⟩ := this
    exact ⟨u1, u2, a, b, c⟩
  subst eu
  have l1 : u1.length = n := by rw [← r1.length, List.length_take]; omega
  have l2 : u2.length ≤ sizeLine := by rw [← r2.length, List.length_drop, rd.len]; exact Nat.le_trans (Nat.sub_le _ _) (Nat.le_trans hbig big_le)
  have wl : ws.length = ks.length := by rw [← rz.length]; exact hzl
  refine StX.run_bnd (CX := L2.CX P w) lk hcd S hr.rm e0 (G := fun xs H2 => ∃ p, H p = none ∧ xs = g (vs.take n) (ms.map (·.2)) zs ++ [V.ref p] ∧ H2 = upd H p (.tup (vs.drop n))) (fun A' Ex Q' h => ?_) fun s2 H2 xs ⟨p, hp, h2, h3⟩ hr' => ?_
  · refine kwc_run kin mq (hb D kV doc pm an cdv ct u1 u2 mv ws hkv l1 ml wl) (wpAny_bind (wpAny_newTuple (wpAny_pure ?_) l2))
    have new : ObjOk P w (upd H s.heap.objs.size (.tup (vs.drop n))) (s.heap.push ({ cls := .type "tuple", data := .seq u2.toArray } : Obj)) s.heap.objs.size (.tup (vs.drop n)) :=
      ⟨by rw [r2.length]; exact l2, u2, r2, ⟨_, Heap.get?_push_size _ rfl, rfl, _, rfl⟩⟩
    have un := StX.un_laid (fs := frs outer) (s := s) (o := ({ cls := .type "tuple", data := .seq u2.toArray } : Obj)) (u := .tup (vs.drop n)) hnn
    have z := h _ _ (g (vs.take n) (ms.map (·.2)) zs ++ [V.ref s.heap.objs.size]) (g u1 mv ws ++ [Value.ref s.heap.objs.size]) (StX.env0_laid e0 new) un rfl
      (fun e s' => StX.cxUp outer s H _ _ E e s' un (fun b o q => Heap.get?_push_of_some _ q) rfl) ((hrel r1 mr rz).append (.cons rfl .nil))
      (by rw [List.length_append, List.length_append, hgl _ _ _ (by rw [List.length_take]; omega) (by simp) hzl]; rfl) ⟨_, hnn, rfl, rfl⟩
    rw [List.zip_append (by rw [hgl _ _ _ l1 ml wl])] at z
    exact z
  · subst h2 h3
    have x := Ext.new (o := .tup (vs.drop n)) sg hp
    have rr : RpL ⟨K, mg⟩ (upd G p (.tup (vs.drop n))) (g (vs.take n) (ms.map (·.2)) zs ++ [V.ref p]) (g (ds.take n) dd es ++ [.tup (ds.drop n)]) :=
      RpL.app (hrp ((rd.take n).up x.g) (hdd _) (re.up x.g)) (.cons (.tup (SqT.of upd_same) (by rw [List.length_drop]; omega) ((rd.drop n).up x.g)) .nil)
    have ddl : dd.length = ms.length := by rw [← (hdd G).len, List.length_map]
    refine body_run (ps := []) (cs := []) S B ⟨hr', hr.gd⟩ rfl List.nodup_nil x.i .nil rr (by rw [List.length_append, List.length_append, hgl _ _ _ (by rw [List.length_take]; omega) ddl hel]; simp) ?_
    rw [List.length_append]
    exact noC_of (PostR.mono x (noC_ne _) post)
/-- def f(a, .., *, d = x, ..), called with n positions and the keywords ks -/
theorem fnxN (F : FunD K name qual params body scope [] kws f fd) (S : FnScope N qs scope) (n : Nat) (ks : List Str) (ms : List (Str × V)) (dd : List D) (g : {α : Type} → List α → List α → List α → List α) (hms : ∀ q ∈ ms, q ∈ kws) (hdd : ∀ G, RpL ⟨K, mg⟩ G (ms.map (·.2)) dd)
    (hrel : ∀ {vs mz zs : List V} {us mv ws : List Value}, Vals vs us → Vals mz mv → Vals zs ws → Vals (g vs mz zs) (g us mv ws))
    (hrp : ∀ {G : Hp} {vs mz zs : List V} {us mv ws : List D}, RpL ⟨K, mg⟩ G vs us → RpL ⟨K, mg⟩ G mz mv → RpL ⟨K, mg⟩ G zs ws → RpL ⟨K, mg⟩ G (g vs mz zs) (g us mv ws))
    (hgl : ∀ {α : Type} (us mv ws : List α), us.length = n → mv.length = ms.length → ws.length = ks.length → (g us mv ws).length = qs.length)
    (hb : ∀ (D : Addr) (kV doc pm : Value) (an : Option Addr) (cdv ct : Value) (us mv ws : List Value), (kV = .ref D ∨ kws = []) → us.length = n → mv.length = ms.length → ws.length = ks.length →
      KwC D ((ms.map (·.1)).zip mv) (bindArgs (PySem.W.fnOf name qual params body scope .none kV doc pm an cdv ct) ⟨us, ks.zip ws⟩) (pure (qs.zip (g us mv ws))))
    (B : BodyX P w K mg base b k N qual scope f body sv) :
    FnG P w K mg base b (k + 1) f ks (spK ⟨K, mg⟩ fun ds es => if ds.length = n ∧ es.length = ks.length then fnB N.length 0 qs.length sv [] (g ds dd es) else .no) := by
  obtain ⟨oc, od, dV, kV, doc, pm, an, cdv, ct, osl, rfl, lk, hcd, hD, hK⟩ := F.ex
  rcases hD with ⟨_, rfl⟩ | ⟨e, _⟩
  rotate_left
  · exact absurd rfl e
  obtain ⟨D, hkv, mv, ml, mr, mq⟩ : ∃ (D : Addr), (kV = .ref D ∨ kws = []) ∧ ∃ mv : List Value, mv.length = ms.length ∧ Vals (ms.map (·.2)) mv ∧ ∀ q ∈ (ms.map (·.1)).zip mv, PySem.W.nsIn K D q.1 = some (some q.2) := by
    rcases hK with e | ⟨D, rfl, hq⟩
    · have e0 : ms = [] := List.eq_nil_iff_forall_not_mem.mpr fun q hq => by have := hms q hq; rw [e] at this; cases this
      subst e0
      exact ⟨0, .inr e, [], rfl, .nil, fun q hq => by cases hq⟩
    · exact ⟨D, .inl rfl, kwd_vals (ms := ms) fun q hm => hq q (hms q hm)⟩
  intro A outer s H us ws vs zs Q E hr e0 r rz hzl ⟨G, ds, es, sg, rd, re, post⟩
  dsimp only at post
  split at post
  rotate_left
  · exact post.elim
  rename_i hc
  obtain ⟨hn, hel⟩ := hc
  have kin : K.In s.heap := e0.mod.kin.keeps fun b o e => (e0.bs b o e).1
  have l1 : us.length = n := by rw [← r.length, rd.len]; exact hn
  have wl : ws.length = ks.length := by rw [← rz.length]; exact hzl
  have ddl : dd.length = ms.length := by rw [← (hdd G).len, List.length_map]
  refine StX.run_bnd (CX := L2.CX P w) lk hcd S hr.rm e0 (G := fun xs H2 => xs = g vs (ms.map (·.2)) zs ∧ H2 = H) (fun A' Ex Q' h => ?_) fun s2 H2 xs ⟨h2, h3⟩ hr' => ?_
  · refine kwc_run kin mq (hb D kV doc pm an cdv ct us mv ws hkv l1 ml wl) (wpAny_pure ?_)
    exact h s H (g vs (ms.map (·.2)) zs) (g us mv ws) e0 Un.refl rfl (fun e s' z => z) (hrel r mr rz) (hgl _ _ _ (by rw [rd.len]; exact hn) (by simp) hzl) ⟨rfl, rfl⟩
  · subst h2 h3
    exact body_run (ps := []) (cs := []) S B ⟨hr', hr.gd⟩ rfl List.nodup_nil sg .nil (hrp rd (hdd G) re) (by rw [hgl _ _ _ hn ddl hel]; simp) post

/-! ### **more -/
/-- one more entry of a dict by names -/
theorem wpAny_nsSetD {A : Around} {E : Value → Shared → Prop} {s : Shared} {a : Addr} {kvs : List (Key × Value)} {x : Str} {v : Value} {Q : Unit → Shared → Prop} (hm : s.heap.DictOf (mixKind P w) a kvs) (hf : Sum.inr x ∉ kvs.map (·.1))
    (hQ : ∀ h', h'.DictOf (mixKind P w) a (kvs ++ [(.inr x, v)]) → Heap.SameBut a s.heap h' → Q () { s with heap := h', toks := s.toks + 1 }) : wpAny (model P w) A (nsSet a x v) Q E s := by
  obtain ⟨o, es, ep, ho, hx, hd, hk, hp, hn⟩ := hm
  have hany : es.any (·.refKey) = false := by
    rw [Array.any_eq_false']
    intro e he
    obtain ⟨k, h1, _⟩ := hk e he
    rcases keyIs_shape (show keyIs k e.key = true from h1) with ⟨i, t, _, h⟩ | ⟨y, t, _, h⟩ <;> simp [DictEntry.refKey, h]
  have hkey : ∀ t : Tok, (mixKind P w).is (.inr x) (.str x t) = true := fun t => mixKind_str P w x t
  have hidx : (es.findIdx? fun e => (mixKind P w).is (.inr x) e.key) = none := by
    have e1 : (es.findIdx? fun e => (mixKind P w).is (.inr x) e.key) = kvs.findIdx? fun kv => decide (kv.1 = Sum.inr x) := by
      rw [← hp.findIdx (.inr x)]; obtain ⟨l⟩ := es; simp
    rw [e1, List.findIdx?_eq_none_iff]
    intro kv hkv
    exact decide_eq_false fun e => hf (List.mem_map.mpr ⟨kv, hkv, e⟩)
  have hstr : (es.findIdx? (·.key.isStr x)) = none := by
    rw [← hidx]
    have : ∀ e ∈ es.toList, e.key.isStr x = (mixKind P w).is (.inr x) e.key := fun e he => by
      obtain ⟨k, h1, _⟩ := hk e (Array.mem_toList_iff.mp he)
      rcases keyIs_shape (show keyIs k e.key = true from h1) with ⟨i, t, _, h⟩ | ⟨y, t, _, h⟩
      · rw [h]; rfl
      · rw [h]; rfl
    obtain ⟨l⟩ := es
    simp only [List.findIdx?_toArray]
    clear hk hp hd hany hidx
    induction l with
    | nil => rfl
    | cons e r ih =>
      rw [List.findIdx?_cons, List.findIdx?_cons, this e List.mem_cons_self, ih fun e he => this e (List.mem_cons_of_mem _ he)]
  unfold nsSet strHash
  refine wpAny_bind (wpAny_bind (wpAny_askSetting (wpAny_pure ?_)))
  refine wpAny_bind (wpAny_mkText (wpAny_bind (wpAny_loadPart ho ?_)))
  simp only [hd, aRefKeyMayBeTheName_eq, aRefKeyMayBeTheNameByArray, hany, Bool.and_false, Bool.false_eq_true, if_false]
  refine fun Γ p _ => ?_
  simp only [Sem.wp_cmd_updatePart]
  refine ⟨by rw [ho]; rfl, hQ _ ?_ (Heap.SameBut.update ..)⟩
  obtain ⟨c, d, dt, sl⟩ := o
  subst hd
  refine ⟨_, _, ep + 1, Heap.get?_update_self _ ho (by simp only [Obj.putName_eq, Obj.putNameByArray, hstr]; rfl), ?_, by simp only [Obj.putName_eq, Obj.putNameByArray, hstr]; rfl, hk.push (hkey _) v, ?_, ?_⟩
  · simp only [Obj.putName_eq, Obj.putNameByArray, hstr]; exact hx
  · have := hp.append (hkey s.toks) ((mixKind P w).hash (.inr x)) v
    obtain ⟨l⟩ := es
    simpa using this
  · rw [List.map_append, List.nodup_append]
    refine ⟨hn, by simp, fun b hb c hc => ?_⟩
    simp at hc
    subst hc
    exact fun e => hf (e ▸ hb)
end
end Dx

set_option Elab.async false
set_option linter.all false
set_option maxRecDepth 100000
set_option maxHeartbeats 4000000
/-! the data layer: def f(a, .., **more) -/
namespace Dx
open PySem PySem.Spec PyProof.Rows L2 Gd
/-- t puts the names with their values in the dict at d, one behind another, and goes on as r -/
def PutC {α : Type} (d : Addr) : List (Str × Value) → Sem α → Sem α → Prop
  | [], t, r => t = r
  | q :: l, t, r => ∃ (β γ : Type) (k1 : Unit → Sem β) (k2 : β → Sem γ) (k3 : γ → Sem α) (a : β), t = ((nsSet d q.1 q.2 >>= k1) >>= k2) >>= k3 ∧ k1 () = pure a ∧ PutC d l (k2 a >>= k3) r
def inrs (l : List (Str × Value)) : List (Key × Value) := l.map fun q => (.inr q.1, q.2)
section
variable {P : Program} {w : World}
theorem putc_run {α : Type} {d : Addr} {A : Around} {E : Value → Shared → Prop} {Q : α → Shared → Prop} {h0 : Heap} : ∀ {l acc : List (Str × Value)} {t r : Sem α} {s : Shared}, ((acc ++ l).map (·.1)).Nodup → s.heap.DictOf (mixKind P w) d (inrs acc) → Heap.SameBut d h0 s.heap → PutC d l t r →
    (∀ h' tk, h'.DictOf (mixKind P w) d (inrs (acc ++ l)) → Heap.SameBut d h0 h' → wpAny (model P w) A r Q E { s with heap := h', toks := tk }) → wpAny (model P w) A t Q E s
  | [], acc, _, _, s, _, hd, hs, e, h => by
    rw [show _ = _ from e]
    rw [List.append_nil] at h
    exact h s.heap s.toks hd hs
  | q :: l, acc, _, _, s, nd, hd, hs, e, h => by
    obtain ⟨β, γ, k1, k2, k3, a, e1, e2, e3⟩ := e
    rw [e1, bind_assoc, bind_assoc]
    have hf : Sum.inr q.1 ∉ (inrs acc).map (·.1) := fun hm => by
      obtain ⟨z, hz, ez⟩ := List.mem_map.mp hm
      obtain ⟨y, hy, rfl⟩ := List.mem_map.mp hz
      have ey : y.1 = q.1 := Sum.inr.inj ez
      rw [List.map_append, List.nodup_append] at nd
      exact nd.2.2 y.1 (List.mem_map.mpr ⟨y, hy, rfl⟩) q.1 (by simp) ey
    refine wpAny_bind (wpAny_nsSetD hd hf fun h' hd' hs' => ?_)
    show wpAny _ _ (k1 () >>= fun x => k2 x >>= k3) _ _ _
    rw [e2, pure_bind]
    have hd2 : h'.DictOf (mixKind P w) d (inrs (acc ++ [q])) := by
      unfold inrs at hd' ⊢
      rw [List.map_append]; exact hd'
    exact putc_run (s := { s with heap := h', toks := s.toks + 1 }) (by rw [List.append_assoc]; exact nd) hd2 (hs.trans hs') e3 fun h2 tk a b => by
      rw [List.append_assoc] at a
      exact h h2 tk a b
end
section
variable {P : Program} {w : World} {K : PySem.W.Frag} {mg : Str → Option Value} {base : Heap} {b : Bool} {k : Nat} {f : Addr} {name qual : Str} {params : Arguments} {body : List Stmt} {scope : Scope} {fd : FuncData} {N qs ks : List Str} {pd : Str} {sv : SV}
theorem env0_new {A : Around} {outer : List Env} {s : Shared} {H : Hp} {h' : Heap} {tk : Nat} {u : HO} (e0 : Env0 P w K mg base A outer s H) (kp : ∀ b x, s.heap.get? b = some x → h'.get? b = some x) (sz : s.heap.objs.size ≤ h'.objs.size)
    (new : ObjOk P w (upd H s.heap.objs.size u) h' s.heap.objs.size u) : Env0 P w K mg base A outer { s with heap := h', toks := tk } (upd H s.heap.objs.size u) := by
  refine ⟨e0.frames, e0.mod, fun b x e => ⟨kp b x (e0.bs b x e).1, ?_⟩, Nat.le_trans e0.bsz sz, Heap.FunFrames.of_keeps (fun b x e _ => ⟨x, kp b x e, rfl⟩) e0.funs, fun b hb => ?_, e0.hok.laid kp (Nat.le_refl _) new, e0.bare⟩
  · rw [upd_ne (Nat.ne_of_lt (Heap.lt_size (e0.bs b x e).1))]
    exact (e0.bs b x e).2
  · obtain ⟨_, x, hx, _⟩ := e0.funs.mem hb
    rw [upd_ne (Nat.ne_of_lt (Heap.lt_size hx))]
    exact e0.frf b hb
def keyL (ks : List Str) : List Key := ks.map .inr
theorem kv_of : ∀ {ks : List Str} {zs : List V} {ws : List Value}, Vals zs ws → KV ((keyL ks).zip zs) (inrs (ks.zip ws))
  | [], zs, ws, r => by cases r <;> exact .nil
  | k :: ks, _, _, .nil => .nil
  | k :: ks, _, _, .cons a r => .cons ⟨rfl, a⟩ (kv_of r)
def inrD : List (Str × D) → List (Key × D) := List.map fun q => (.inr q.1, q.2)
theorem keyL_fst : ∀ {ks : List Str} {α : Type} {zs : List α}, zs.length = ks.length → ((keyL ks).zip zs).map (·.1) = keyL ks
  | [], _, [], _ => rfl
  | k :: ks, _, [], h => by cases h
  | [], _, _ :: _, h => by cases h
  | k :: ks, _, z :: zs, h => by
    have := keyL_fst (ks := ks) (zs := zs) (Nat.succ.inj h)
    exact congrArg (Sum.inr k :: ·) this
theorem zip_snd : ∀ {α β : Type} {ks : List α} {zs : List β}, zs.length = ks.length → (ks.zip zs).map (·.2) = zs
  | _, _, [], [], _ => rfl
  | _, _, k :: ks, [], h => by cases h
  | _, _, [], _ :: _, h => by cases h
  | _, _, k :: ks, z :: zs, h => by
    have := zip_snd (ks := ks) (zs := zs) (Nat.succ.inj h)
    exact congrArg (z :: ·) this
theorem inrs_fst : ∀ {ks : List Str} {ws : List Value}, ws.length = ks.length → (ks.zip ws).map (·.1) = ks
  | [], [], _ => rfl
  | k :: ks, [], h => by cases h
  | [], _ :: _, h => by cases h
  | k :: ks, z :: zs, h => by
    have := inrs_fst (ks := ks) (ws := zs) (Nat.succ.inj h)
    exact congrArg (k :: ·) this
theorem fnxKW {st : Stmt} (F : Fun K name qual st f fd) (S : FnScope N (qs ++ [pd]) (defScope st)) (ks : List Str) (nd : ks.Nodup) (hz : ks.length ≤ 64)
    (hb : ∀ (kV doc pm : Value) (an : Option Addr) (cdv ct : Value) (us ws : List Value), us.length = qs.length → ws.length = ks.length →
      ∃ kk : Addr → Sem (List (Str × Value)), bindArgs (PySem.W.fnOf name qual (defArgs st) (defBody st) (defScope st) .none kV doc pm an cdv ct) ⟨us, ks.zip ws⟩ = (alloc ({ cls := .type "dict", data := .dict #[] } : Obj) : Sem Addr) >>= kk ∧ ∀ d, PutC d (ks.zip ws) (kk d) (pure (qs.zip us ++ [(pd, .ref d)])))
    (B : BodyX P w K mg base b k N qual (defScope st) f (defBody st) sv) :
    FnG P w K mg base b (k + 1) f ks (spK ⟨K, mg⟩ fun ds es => if ds.length = qs.length ∧ es.length = ks.length then noC (fnB N.length 0 (qs.length + 1) sv [] (ds ++ [.dic ((keyL ks).zip es)])) else .no) := by
  obtain ⟨oc, od, kV, doc, pm, an, cdv, ct, osl, rfl, lk, hcd⟩ := F.ex
  intro A outer s H us ws vs zs Q E hr e0 r rz hzl ⟨G, ds, es, sg, rd, re, post⟩
  dsimp only at post
  split at post
  rotate_left
  · exact post.elim
  rename_i hc
  obtain ⟨hn, hel⟩ := hc
  have hnn : H s.heap.objs.size = none := e0.hok.fresh (Nat.le_refl _)
  have l1 : us.length = qs.length := by rw [← r.length, rd.len]; exact hn
  have wl : ws.length = ks.length := by rw [← rz.length]; exact hzl
  obtain ⟨kk, hk1, hk2⟩ := hb kV doc pm an cdv ct us ws l1 wl
  have zsz : ((keyL ks).zip zs).length ≤ sizeLine := by
    rw [List.length_zip, hzl]
    unfold keyL
    rw [List.length_map]
    have : (64 : Nat) ≤ sizeLine := by rw [sizeLine_eq]; omega
    omega
  refine StX.run_bnd (CX := L2.CX P w) lk hcd S hr.rm e0 (G := fun xs H2 => ∃ p od, H p = none ∧ xs = vs ++ [V.ref p] ∧ H2 = upd H p (.frz od (.dK ((keyL ks).zip zs)))) (fun A' Ex Q' h => ?_) fun s2 H2 xs ⟨p, od, hp, h2, h3⟩ hr' => ?_
  · rw [hk1]
    refine wpAny_bind (wpAny_alloc ?_)
    refine putc_run (acc := []) (h0 := s.heap.push ({ cls := .type "dict", data := .dict #[] } : Obj)) (by rw [List.nil_append, inrs_fst wl]; exact nd) (Heap.DictOf.new s.heap) (Heap.SameBut.refl _ _) (hk2 _) fun h' tk hd hs => wpAny_pure ?_
    have kp : ∀ b x, s.heap.get? b = some x → h'.get? b = some x := fun b x e => (hs.2 b (Nat.ne_of_lt (Heap.lt_size e))).trans (Heap.get?_push_of_some _ e)
    have sz : s.heap.objs.size ≤ h'.objs.size := by rw [hs.1, Heap.size_push]; exact Nat.le_succ _
    have big1 := StX.env0_big e0
    obtain ⟨od, hod⟩ : ∃ od, h'.get? s.heap.objs.size = some od := by obtain ⟨o, _, _, e, _⟩ := hd; exact ⟨o, e⟩
    have new : ObjOk P w (upd H s.heap.objs.size (.frz od (.dK ((keyL ks).zip zs)))) h' s.heap.objs.size (.frz od (.dK ((keyL ks).zip zs))) :=
      ⟨hod, zsz, beq_eq_false_iff_ne.mpr (Ne.symm (Nat.ne_of_lt big1)), inrs (ks.zip ws), kv_of rz, by rw [List.nil_append] at hd; exact hd⟩
    have un : Un (frs outer) [] H (upd H s.heap.objs.size (.frz od (.dK ((keyL ks).zip zs)))) s.heap h' := Un.laid kp (Nat.le_refl _) hnn
    have z := h { s with heap := h', toks := tk } _ (vs ++ [V.ref s.heap.objs.size]) (us ++ [Value.ref s.heap.objs.size]) (env0_new e0 kp sz new) un rfl
      (fun e s' => StX.cxUp outer s H _ _ E e s' un kp rfl) (r.append (.cons rfl .nil)) (by rw [List.length_append, List.length_append, r.length, l1]; rfl) ⟨_, od, hnn, rfl, rfl⟩
    rw [List.zip_append (by rw [l1])] at z
    exact z
  · subst h2 h3
    have x := Ext.new (o := .frz od (.dK ((keyL ks).zip zs))) sg hp
    have rr : RpL ⟨K, mg⟩ (upd G p (.frz od (.dK ((keyL ks).zip zs)))) (vs ++ [V.ref p]) (ds ++ [.dic ((keyL ks).zip es)]) := by
      refine RpL.app (rd.up x.g) (.cons (.dic upd_same ?_ ?_ ?_) .nil)
      · rw [List.length_zip, hel]
        unfold keyL
        rw [List.length_map]
        have : (64 : Nat) ≤ big := by decide
        omega
      · rw [keyL_fst hzl, keyL_fst hel]
      · rw [zip_snd (by unfold keyL; rw [List.length_map]; exact hzl), zip_snd (by unfold keyL; rw [List.length_map]; exact hel)]
        exact re.up x.g
    refine body_run (ps := []) (cs := []) S B ⟨hr', hr.gd⟩ rfl List.nodup_nil x.i .nil rr (by rw [List.length_append, List.length_append, hn]; simp) ?_
    rw [List.length_append]
    exact noC_of (PostR.mono x (noC_ne _) post)
end
end Dx

set_option Elab.async false
set_option linter.all false
set_option maxRecDepth 100000
set_option maxHeartbeats 4000000
/-! the data layer: repr, more iterables -/
namespace Dx
open PySem PySem.Spec PyProof.Rows L2 Gd
theorem hu1 {A : Around} {b : Bool} {k : Nat} (hr : Rb b k A) : A.units + 1 < cLine := by have := hr.rm.un; omega
/-- built-in names that the module leaves alone -/
structure Bts (mg : Str → Option Value) : Prop where
  len : mg "len" = none
  int : mg "int" = none
  abs : mg "abs" = none
  max : mg "max" = none
  list : mg "list" = none
  range : mg "range" = none
  tuple : mg "tuple" = none
  enumerate : mg "enumerate" = none
  str : mg "str" = none
  bool : mg "bool" = none
  isinstance : mg "isinstance" = none
  all : mg "all" = none
  zip : mg "zip" = none
  sorted : mg "sorted" = none
  dict : mg "dict" = none
  set : mg "set" = none
  repr : mg "repr" = none
  min : mg "min" = none
  sum : mg "sum" = none
  any : mg "any" = none

/-! ### repr -/
mutual
def pyD : D → Option PyData
  | .non => some .none
  | .bl b => some (.bool b)
  | .int i => some (.int i)
  | .str x => some (.str x)
  | .tup xs => (pyDs xs).map .tuple
  | .lst xs => (pyDs xs).map .list
  | .dic ks => (pyKs ks).map .dict
  | _ => none
def pyDs : List D → Option (List PyData)
  | [] => some []
  | d :: r => (pyD d).bind fun p => (pyDs r).map fun l => p :: l
def pyKs : List (Key × D) → Option (List (PyData × PyData))
  | [] => some []
  | (k, d) :: r => (pyD d).bind fun p => (pyKs r).map fun l => (kD k, p) :: l
end
mutual
/-- no list within -/
def noL : D → Bool
  | .lst _ => false
  | .tup xs => noLs xs
  | .dic ks => noLk ks
  | _ => true
def noLs : List D → Bool
  | [] => true
  | d :: r => noL d && noLs r
def noLk : List (Key × D) → Bool
  | [] => true
  | (_, d) :: r => noL d && noLk r
end
section
variable {X : Cx} {g : Gm} {G H : Hp} {pins : List (Addr × Obj)} {σ : L2.St} {s : Shared}
mutual
theorem rp_reads (I : Inv X pins σ H s) (sg : Same G H) (hK : X.K = g.K) : ∀ (d : D) (v : V) (u : Value) (p : PyData), Rp g G v d → RelV v u → pyD d = some p → ∃ as, Reads s.heap u p as ∧ (noL d = true → sysModules ∉ as)
  | .non, _, _, _, h, r, e => by cases h; cases r; unfold pyD at e; cases e; exact ⟨_, .none, by simp⟩
  | .bl b, _, _, _, h, r, e => by cases h; cases r; unfold pyD at e; cases e; exact ⟨_, .bool b, by simp⟩
  | .int i, _, _, _, h, r, e => by cases h; obtain ⟨t, rfl⟩ := r; unfold pyD at e; cases e; exact ⟨_, .int i t, by simp⟩
  | .str x, _, _, _, h, r, e => by cases h; obtain ⟨t, rfl⟩ := r; unfold pyD at e; cases e; exact ⟨_, .str x t, by simp⟩
  | .lst ds, _, _, _, h, r, e => by
    cases h with
    | lst hs hn ha =>
      cases r
      unfold pyD at e
      obtain ⟨ps, e1, rfl⟩ := Option.map_eq_some_iff.mp e
      obtain ⟨its, rv, ⟨o, n, ho, hc, _, hd⟩, _⟩ := I.list (SqL.of (sg _ _ hs))
      obtain ⟨as, hr, hn⟩ := rpl_reads I sg hK ds _ its ps ha rv e1
      exact ⟨_, .list ho hc hd hr, fun z => by unfold noL at z; cases z⟩
  | .tup ds, _, _, _, h, r, e => by
    cases h with
    | tup hs hn ha =>
      cases r
      unfold pyD at e
      obtain ⟨ps, e1, rfl⟩ := Option.map_eq_some_iff.mp e
      obtain ⟨its, rv, ⟨o, ho, hc, n, hd⟩, _⟩ := I.tuple (show SqT X.K H _ _ by rw [hK]; exact sqTS sg hs)
      obtain ⟨as, hr, hn⟩ := rpl_reads I sg hK ds _ its ps ha rv e1
      exact ⟨_, .tuple ho hc hd hr, fun z => hn (by unfold noL at z; exact z)⟩
  | .dic ks, _, _, _, h, r, e => by
    cases h with
    | dic hs hn he ha =>
      rename_i a od kvs
      cases r
      unfold pyD at e
      obtain ⟨ps, e1, rfl⟩ := Option.map_eq_some_iff.mp e
      obtain ⟨_, hsys, vs, kv, o, es, ep, ho, hex, hdat, _, hp, _⟩ := dk_rd I.hok (Or.inr ⟨_, sg _ _ hs⟩ : Rd H a (.dK kvs))
      obtain ⟨k1, k2⟩ := kd_reads (h := s.heap) kv hp
      obtain ⟨as, hr, hk, hn⟩ := rpk_reads I sg hK ks _ _ ps ha k2 e1
      have hkk : kvs.map (fun p => kD p.1) = ps.map (·.1) := by
        rw [hk, show kvs.map (fun p => kD p.1) = (kvs.map (·.1)).map kD by rw [List.map_map]; rfl, he, List.map_map]
        rfl
      refine ⟨_, Reads.dict ho hex.1 hdat (by rw [← hkk]; exact k1) hr, fun z => ?_⟩
      have n2 := hn (by unfold noL at z; exact z)
      intro hm
      simp only [List.cons_append, List.nil_append, List.mem_cons] at hm
      rcases hm with hm | hm
      · rw [hm] at hsys; simp at hsys
      · exact n2 hm
  | .obj _ _, _, _, _, _, _, e => by unfold pyD at e; cases e
  | .ty _, _, _, _, _, _, e => by unfold pyD at e; cases e
  | .cls _, _, _, _, _, _, e => by unfold pyD at e; cases e
  | .scr _, _, _, _, _, _, e => by unfold pyD at e; cases e
theorem rpl_reads (I : Inv X pins σ H s) (sg : Same G H) (hK : X.K = g.K) : ∀ (ds : List D) (vs : List V) (us : List Value) (ps : List PyData), RpL g G vs ds → Vals vs us → pyDs ds = some ps → ∃ as, ReadsAll s.heap us ps as ∧ (noLs ds = true → sysModules ∉ as)
  | [], _, _, _, h, r, e => by cases h; cases r; unfold pyDs at e; cases e; exact ⟨_, .nil, by simp⟩
  | d :: ds, _, _, _, h, r, e => by
    cases h with
    | cons h1 h2 =>
      cases r with
      | cons r1 r2 =>
        unfold pyDs at e
        obtain ⟨p, e1, e2⟩ := Option.bind_eq_some_iff.mp e
        obtain ⟨l, e3, rfl⟩ := Option.map_eq_some_iff.mp e2
        obtain ⟨as, q1, n1⟩ := rp_reads I sg hK d _ _ p h1 r1 e1
        obtain ⟨bs, q2, n2⟩ := rpl_reads I sg hK ds _ _ l h2 r2 e3
        refine ⟨_, .cons q1 q2, fun z hm => ?_⟩
        unfold noLs at z
        rw [Bool.and_eq_true] at z
        rcases List.mem_append.mp hm with hm | hm
        · exact n1 z.1 hm
        · exact n2 z.2 hm
theorem rpk_reads (I : Inv X pins σ H s) (sg : Same G H) (hK : X.K = g.K) : ∀ (ks : List (Key × D)) (vs : List V) (us : List Value) (ps : List (PyData × PyData)), RpL g G vs (ks.map (·.2)) → Vals vs us → pyKs ks = some ps → ∃ as, ReadsAll s.heap us (ps.map (·.2)) as ∧ ps.map (·.1) = ks.map (fun p => kD p.1) ∧ (noLk ks = true → sysModules ∉ as)
  | [], _, _, _, h, r, e => by cases h; cases r; unfold pyKs at e; cases e; exact ⟨_, .nil, rfl, by simp⟩
  | (k, d) :: ks, _, _, _, h, r, e => by
    cases h with
    | cons h1 h2 =>
      cases r with
      | cons r1 r2 =>
        unfold pyKs at e
        obtain ⟨p, e1, e2⟩ := Option.bind_eq_some_iff.mp e
        obtain ⟨l, e3, rfl⟩ := Option.map_eq_some_iff.mp e2
        obtain ⟨as, q1, n1⟩ := rp_reads I sg hK d _ _ p h1 r1 e1
        obtain ⟨bs, q2, hk, n2⟩ := rpk_reads I sg hK ks _ _ l h2 r2 e3
        refine ⟨_, .cons q1 q2, by rw [List.map_cons, List.map_cons, hk], fun z hm => ?_⟩
        unfold noLk at z
        rw [Bool.and_eq_true] at z
        rcases List.mem_append.mp hm with hm | hm
        · exact n1 z.1 hm
        · exact n2 z.2 hm
end
def fineB (p : PyData) : Bool := leafOk p && decide (p.weight ≤ 100000) && decide (p.depth ≤ 60)
def fRepr : List D → Option D
  | [d] => match pyD d with
    | some p => if fineB p = true ∧ (p.hasDict = false ∨ noL d = true) ∧ p.shown.length ≤ big ∧ PyData.strOk p.shown = true then some (.str p.shown) else none
    | none => none
  | _ => none
theorem cx_repr (hg : X.A.guards = some []) (hu : X.A.units + 64 < cLine) (hK : X.K = g.K := by rfl) : CaX X g (.builtin "repr") fRepr := by
  intro pins s σ H vs us Q I rv ⟨G, ds, r, sg, rd, hF, q⟩
  unfold fRepr at hF
  split at hF
  rotate_left
  · cases hF
  rename_i d
  split at hF
  rotate_left
  · cases hF
  rename_i p hp
  split at hF
  rotate_left
  · cases hF
  rename_i hc
  cases hF
  obtain ⟨hf, hl, hz, hok⟩ := hc
  simp only [fineB, Bool.and_eq_true, decide_eq_true_eq] at hf
  obtain ⟨v, rfl, rp⟩ := rpl1 rd
  obtain ⟨u, rfl, rx⟩ := rv.one
  have fine : Fine p := ⟨hf.1.1, hf.1.2, hf.2⟩
  have hs := (leafOk_show p fine.leaf).1
  have hzz := fine.len
  have hdp := fine.dp
  have fin : ∀ h' t tk, (∀ b o, s.heap.get? b = some o → h'.get? b = some o) → EP X pins σ Q (.str p.shown t) { s with heap := h', toks := tk } := fun h' t tk hk => ⟨.str p.shown, H, I.kept hk, ⟨t, rfl⟩, q _ G H (Ext.rfl sg) (.str _ hz hok)⟩
  obtain ⟨as, rd', hn⟩ := rp_reads I sg hK d v u p rp rx hp
  have hsm : p.hasDict = true → sysModules ∉ as := fun z => hl.elim (fun y => by rw [y] at z; cases z) hn
  have tail : ∀ a, u = .ref a → wpAny (model X.prog X.w) X.A (call (.builtin "repr") [u]) (EP X pins σ Q) X.xe s := by
    rintro a rfl
    exact repr_of_reads' rd' hs hsm hg (by omega) (fun _ _ e => e) fin hzz
  cases rp with
  | non => cases rx; unfold pyD at hp; cases hp; exact PySem.P.repr_of_none (fin s.heap _ _ fun _ _ e => e)
  | bl b => cases rx; unfold pyD at hp; cases hp; exact PySem.P.repr_of_bool (fin s.heap _ _ fun _ _ e => e)
  | int i =>
    obtain ⟨t, rfl⟩ := rx
    unfold pyD at hp; cases hp
    exact PySem.P.repr_of_int (by simpa [PyData.showable] using hs) (fin s.heap _ _ fun _ _ e => e)
  | str y =>
    obtain ⟨t, rfl⟩ := rx
    unfold pyD at hp; cases hp
    exact PySem.P.repr_of_str (fin s.heap _ _ fun _ _ e => e) (by simpa [PyData.shown] using hzz)
  | tup _ _ _ => cases rx; exact tail _ rfl
  | lst _ _ _ => cases rx; exact tail _ rfl
  | dic _ _ _ _ => cases rx; exact tail _ rfl
  | obj _ _ _ _ _ => unfold pyD at hp; cases hp
  | ty _ => unfold pyD at hp; cases hp
  | cls _ => unfold pyD at hp; cases hp
  | scr _ => unfold pyD at hp; cases hp
end
end Dx

set_option Elab.async false
set_option linter.all false
set_option maxRecDepth 100000
set_option maxHeartbeats 4000000
/-! the data layer: dicts of the frame, displays, dict(pairs), comprehensions of dicts -/
namespace Dx
open PySem PySem.Spec PyProof.Rows L2 Gd
def putKD (ks : List (Key × D)) (k : Key) (d : D) : List (Key × D) := if (ks.any fun kv => decide (kv.1 = k)) = true then ks.map (fun kv => if kv.1 = k then (kv.1, d) else kv) else ks ++ [(k, d)]
section
variable {g : Gm} {G : Hp}
theorem any_keys {k : Key} : ∀ {kvs : List (Key × V)} {ks : List (Key × D)}, kvs.map (·.1) = ks.map (·.1) → (kvs.any fun kv => decide (kv.1 = k)) = (ks.any fun kv => decide (kv.1 = k))
  | [], [], _ => rfl
  | [], _ :: _, e => by simp at e
  | _ :: _, [], e => by simp at e
  | (a, x) :: kvs, (b, d) :: ks, e => by
    simp only [List.map_cons, List.cons.injEq] at e
    obtain ⟨rfl, e⟩ := e
    rw [List.any_cons, List.any_cons, any_keys e]
theorem put_map {k : Key} {v : V} {d : D} (rv : Rp g G v d) : ∀ {kvs : List (Key × V)} {ks : List (Key × D)}, kvs.map (·.1) = ks.map (·.1) → RpL g G (kvs.map (·.2)) (ks.map (·.2)) →
    (kvs.map fun kv => if kv.1 = k then (kv.1, v) else kv).map (·.1) = (ks.map fun kv => if kv.1 = k then (kv.1, d) else kv).map (·.1) ∧ RpL g G ((kvs.map fun kv => if kv.1 = k then (kv.1, v) else kv).map (·.2)) ((ks.map fun kv => if kv.1 = k then (kv.1, d) else kv).map (·.2))
  | [], [], _, _ => ⟨rfl, .nil⟩
  | [], _ :: _, e, _ => by simp at e
  | _ :: _, [], e, _ => by simp at e
  | (a, x) :: kvs, (b, y) :: ks, e, r => by
    simp only [List.map_cons, List.cons.injEq] at e r
    obtain ⟨rfl, e⟩ := e
    cases r with
    | cons r1 r2 =>
      obtain ⟨h1, h2⟩ := put_map rv e r2
      by_cases hk : a = k
      · simp only [List.map_cons, hk, if_true]
        exact ⟨by rw [h1], .cons rv h2⟩
      · simp only [List.map_cons, if_neg hk]
        exact ⟨by rw [h1], .cons r1 h2⟩
theorem put_rp {kvs : List (Key × V)} {ks : List (Key × D)} {k : Key} {v : V} {d : D} (e : kvs.map (·.1) = ks.map (·.1)) (r : RpL g G (kvs.map (·.2)) (ks.map (·.2))) (rv : Rp g G v d) :
    (putK kvs k v).map (·.1) = (putKD ks k d).map (·.1) ∧ RpL g G ((putK kvs k v).map (·.2)) ((putKD ks k d).map (·.2)) := by
  unfold putK putKD
  rw [any_keys (k := k) e]
  split
  · exact put_map rv e r
  · simp only [List.map_append, List.map_cons, List.map_nil]
    exact ⟨by rw [e], r.app (.cons rv .nil)⟩
theorem putKD_len (ks : List (Key × D)) (k : Key) (d : D) : (putKD ks k d).length ≤ ks.length + 1 := by
  unfold putKD
  split
  · rw [List.length_map]; omega
  · rw [List.length_append]; exact Nat.le_refl _
end
section
variable {X : Cx} {f : Fm} {W : WX}
@[simp] def isDicC (i : Nat) (ρ : Ev) : Bool := match (ρ[i]?).bind Slot.cell with
  | some (.dic _) => true
  | _ => false
theorem isDic_at {G H : Hp} {σ : L2.St} {ρ : Ev} (h : FI f G H σ ρ) {i : Nat} (e : isDicC i ρ = true) : ∃ p ks kvs, (ρ[i]?).bind Slot.cell = some (.dic ks) ∧ σ[i]? = some (some (.ref p)) ∧ H p = some (.dK kvs) ∧ ks.length ≤ big ∧ kvs.map (·.1) = ks.map (·.1) ∧ RpL f.g G (kvs.map (·.2)) (ks.map (·.2)) := by
  unfold isDicC at e
  split at e
  · rename_i ks hb
    obtain ⟨s, es, ec⟩ := Option.bind_eq_some_iff.mp hb
    obtain ⟨p, ep, cr⟩ := cell_at h es ec
    obtain ⟨_, n, kvs, e1, e2, r⟩ := cr
    exact ⟨p, ks, kvs, hb, ep, e1, n, e2, r⟩
  · cases e
/-- d[k] = e, d a dict of the frame -/
@[simp] def sPutD (i : Nat) (ix ev : EV) : SV := fun ρ => (ev ρ).bind fun d ρ1 => if isDicC i ρ1 = true then (ix ρ1).bind fun k ρ2 => withC i (fun c => match c with
  | .dic ks => if ks.length < big then (dKey k).map fun kk => (Fl.nx, .dic (putKD ks kk d)) else none
  | _ => none) ρ2 else .no
theorem pxs_putD {i : Nat} {y : Str} {py tpos pos : Pos} {ie e : Expr} {ix ev : EV} (hN : X.N[i]? = some y) (hu : X.A.units + 1 < cLine) (hi : PX X f W ie ix) (h : PX X f W e ev) (hv : Vis X.env.scope y := by first | exact Or.inl rfl | exact Or.inr (Or.inl rfl) | exact Or.inr (Or.inr rfl)) (hd : (y == ("__debug__" : Str)) = false := by decide)
    (hcd : (y == ("__classdict__" : Str)) = false := by decide) (hs : swapsWith e (some (.Subscript (.Name y py) ie tpos)) pos.line X.env = pure false := by rfl) :
    PXS X f W (.Assign [.Subscript (.Name y py) ie tpos] e pos) (sPutD i ix ev) :=
  PS.imp (ps_dput hu (pe_var hN hv hd hcd) hi h hs) fun Dd σ H ⟨G, ρ, fi, q⟩ => ⟨G, ρ, fi, PostS.bindX q fun d ρ1 G1 H1 s1 fi1 q1 v rv => by
    split at q1
    · rename_i hl
      obtain ⟨p, ks0, kvs0, _, ep, _⟩ := isDic_at fi1 hl
      refine ⟨_, ep, G1, ρ1, fi1, PostS.bindX q1 fun k ρ2 G2 H2 s2 fi2 q2 u ru => ?_⟩
      rcases withC_no (i := i) (ρ := ρ2) (k := fun c => match c with
        | .dic ks => if ks.length < big then (dKey k).map fun kk => (Fl.nx, .dic (putKD ks kk d)) else none
        | _ => none) with ⟨a, ρ3, hw⟩ | hw
      · rw [hw] at q2
        obtain ⟨s, c, c', hs', hc, hk, rfl⟩ := withC_ok hw
        obtain ⟨p1, ep1, cr⟩ := cell_at fi2 hs' hc
        rw [ep] at ep1; cases ep1
        cases c with
        | dic ks =>
          simp only at hk
          split at hk
          · rename_i hb
            obtain ⟨kk, hkk, e3⟩ := Option.map_eq_some_iff.mp hk
            cases e3
            obtain ⟨g0, n0, kvs, e1, e2, r1⟩ := cr
            have ek := key_rp ru hkk
            subst ek
            obtain ⟨z1, z2⟩ := put_rp (k := kk) e2 r1 (rv.up s2)
            have hlen : kvs.length = ks.length := by have := congrArg List.length e2; simpa using this
            refine ⟨p, _, rfl, DPut.k e1 (by rw [hlen]; exact Nat.lt_of_lt_of_le hb big_le), ?_⟩
            exact q2 σ G2 _ same_rfl (fi2.upd1 hs' (slot_mut hc) ep ⟨g0, by have := putKD_len ks kk d; omega, _, upd_same, z1, z2⟩)
          · cases hk
        | lst _ => cases hk
        | ins _ _ => cases hk
      · rw [hw] at q2
        exact q2.elim
    · exact q1.elim⟩
/-- d.get(k), d a dict of the frame -/
@[simp] def eGetO1 (i : Nat) (k : EV) : EV := fun ρ => if isDicC i ρ = true then (k ρ).bind fun y ρ2 => match (ρ2[i]?).bind Slot.cell, dKey y with
  | some (.dic ks), some k => .ok ((lkD ks k).getD .non) ρ2
  | _, _ => .no else .no
@[simp] def eGetO2 (i : Nat) (k z : EV) : EV := fun ρ => if isDicC i ρ = true then (k ρ).bind fun y ρ2 => (z ρ2).bind fun w ρ3 => match (ρ3[i]?).bind Slot.cell, dKey y with
  | some (.dic ks), some k => .ok ((lkD ks k).getD w) ρ3
  | _, _ => .no else .no
variable {e z : Expr} {y : Str} {py apos cpos : Pos} {ek ez : EV} {i : Nat}
theorem px_getO1 (hN : X.N[i]? = some y) (hu : X.A.units + 1 < cLine) (he : PX X f W e ek) (m : M1 X (.Name y py) "get" apos e cpos) (hv : Vis X.env.scope y := by first | exact Or.inl rfl | exact Or.inr (Or.inl rfl) | exact Or.inr (Or.inr rfl)) (hd : (y == ("__debug__" : Str)) = false := by decide)
    (hcd : (y == ("__classdict__" : Str)) = false := by decide) : PX X f W (.Call (.Attribute (.Name y py) "get" apos) [e] [] cpos) (eGetO1 i ek) :=
  PE.imp (pe_dget1 hu (pe_var hN hv hd hcd) he m) fun σ H Q ⟨G, ρ, fi, q⟩ => by
    unfold eGetO1 at q
    split at q
    · rename_i hl
      obtain ⟨p, ks0, kvs0, _, ep, e0, _⟩ := isDic_at fi hl
      refine ⟨_, ep, p, rfl, .inl ⟨_, .inl e0⟩, G, ρ, fi, PostX.bind q fun d ρ1 G1 H1 s1 fi1 q1 u ru => ?_⟩
      split at q1
      · rename_i ks k hb hk
        obtain ⟨s, es, ec⟩ := Option.bind_eq_some_iff.mp hb
        obtain ⟨p1, ep1, cr⟩ := cell_at fi1 es ec
        rw [ep] at ep1; cases ep1
        obtain ⟨_, n, kvs, e1, e2, r⟩ := cr
        have ey := key_rp ru hk
        subst ey
        exact ⟨_, .inl ⟨_, k, .inl e1, rfl, rfl⟩, q1 G1 H1 same_rfl fi1 _ (getD_rp e2 r .non)⟩
      · exact q1.elim
    · exact q.elim
theorem px_getO2 (hN : X.N[i]? = some y) (hu : X.A.units + 1 < cLine) (he : PX X f W e ek) (hz : PX X f W z ez) (m : M2 X (.Name y py) "get" apos e z cpos) (hv : Vis X.env.scope y := by first | exact Or.inl rfl | exact Or.inr (Or.inl rfl) | exact Or.inr (Or.inr rfl)) (hd : (y == ("__debug__" : Str)) = false := by decide)
    (hcd : (y == ("__classdict__" : Str)) = false := by decide) : PX X f W (.Call (.Attribute (.Name y py) "get" apos) [e, z] [] cpos) (eGetO2 i ek ez) :=
  PE.imp (pe_dget2 hu (pe_var hN hv hd hcd) he hz m) fun σ H Q ⟨G, ρ, fi, q⟩ => by
    unfold eGetO2 at q
    split at q
    · rename_i hl
      obtain ⟨p, ks0, kvs0, _, ep, e0, _⟩ := isDic_at fi hl
      refine ⟨_, ep, p, rfl, .inl ⟨_, .inl e0⟩, G, ρ, fi, PostX.bind q fun d ρ1 G1 H1 s1 fi1 q1 u ru => ⟨G1, ρ1, fi1, PostX.bind q1 fun w ρ2 G2 H2 s2 fi2 q2 t rt => ?_⟩⟩
      split at q2
      · rename_i ks k hb hk
        obtain ⟨s, es, ec⟩ := Option.bind_eq_some_iff.mp hb
        obtain ⟨p1, ep1, cr⟩ := cell_at fi2 es ec
        rw [ep] at ep1; cases ep1
        obtain ⟨_, n, kvs, e1, e2, r⟩ := cr
        have ey := key_rp ru hk
        subst ey
        exact ⟨_, .inl ⟨_, k, .inl e1, rfl, rfl⟩, q2 G2 H2 same_rfl fi2 _ (getD_rp e2 r rt)⟩
      · exact q2.elim
    · exact q.elim
/-- k in d, d a dict of the frame -/
@[simp] def eInO (neg : Bool) (k : EV) (i : Nat) : EV := fun ρ => (k ρ).bind fun y ρ1 => match (ρ1[i]?).bind Slot.cell, dKey y with
  | some (.dic ks), some k => .ok (.bl (xor neg (lkD ks k).isSome)) ρ1
  | _, _ => .no
theorem inO_k {p : Addr} {H G : Hp} {ks : List (Key × D)} {kvs : List (Key × V)} {k : Key} (e1 : kvs.map (·.1) = ks.map (·.1)) (r : RpL f.g G (kvs.map (·.2)) (ks.map (·.2))) : (valV kvs k).isSome = (lkD ks k).isSome := by
  have := lk_rp (k := k) e1 r
  split at this
  · rename_i h; obtain ⟨w, h3, h4⟩ := this; rw [h3, h]; rfl
  · rename_i h; rw [this, h]; rfl
theorem px_inO {pos : Pos} (hN : X.N[i]? = some y) (hu : X.A.units + 1 < cLine) (he : PX X f W e ek) (h1 : behindInMarks .In (.Name y py) = false := by rfl) (hv : Vis X.env.scope y := by first | exact Or.inl rfl | exact Or.inr (Or.inl rfl) | exact Or.inr (Or.inr rfl)) (hd : (y == ("__debug__" : Str)) = false := by decide)
    (hcd : (y == ("__classdict__" : Str)) = false := by decide) : PX X f W (.Compare e [.In] [.Name y py] pos) (eInO false ek i) :=
  PE.imp (pe_cmp (pc_din hu he (pe_var hN hv hd hcd)) h1) fun σ H Q ⟨G, ρ, fi, q⟩ => ⟨G, ρ, fi, PostX.bind q fun d ρ1 G1 H1 s1 fi1 q1 u ru => by
    split at q1
    · rename_i ks k hb hk
      obtain ⟨s, es, ec⟩ := Option.bind_eq_some_iff.mp hb
      obtain ⟨p1, ep1, cr⟩ := cell_at fi1 es ec
      obtain ⟨_, n, kvs, e1, e2, r⟩ := cr
      have ey := key_rp ru hk
      subst ey
      refine ⟨_, ep1, p1, _, rfl, .inl ⟨_, k, .inl e1, rfl, rfl⟩, ?_⟩
      rw [inO_k (p := p1) (H := H1) e2 r]
      have := q1 G1 H1 same_rfl fi1 _ (.bl _)
      simpa using this
    · exact q1.elim⟩
theorem px_ninO {pos : Pos} (hN : X.N[i]? = some y) (hu : X.A.units + 1 < cLine) (he : PX X f W e ek) (h1 : behindInMarks .NotIn (.Name y py) = false := by rfl) (hv : Vis X.env.scope y := by first | exact Or.inl rfl | exact Or.inr (Or.inl rfl) | exact Or.inr (Or.inr rfl)) (hd : (y == ("__debug__" : Str)) = false := by decide)
    (hcd : (y == ("__classdict__" : Str)) = false := by decide) : PX X f W (.Compare e [.NotIn] [.Name y py] pos) (eInO true ek i) :=
  PE.imp (pe_cmp (pc_dnotin hu he (pe_var hN hv hd hcd)) h1) fun σ H Q ⟨G, ρ, fi, q⟩ => ⟨G, ρ, fi, PostX.bind q fun d ρ1 G1 H1 s1 fi1 q1 u ru => by
    split at q1
    · rename_i ks k hb hk
      obtain ⟨s, es, ec⟩ := Option.bind_eq_some_iff.mp hb
      obtain ⟨p1, ep1, cr⟩ := cell_at fi1 es ec
      obtain ⟨_, n, kvs, e1, e2, r⟩ := cr
      have ey := key_rp ru hk
      subst ey
      refine ⟨_, ep1, p1, _, rfl, .inl ⟨_, k, .inl e1, rfl, rfl⟩, ?_⟩
      rw [inO_k (p := p1) (H := H1) e2 r]
      have := q1 G1 H1 same_rfl fi1 _ (.bl _)
      simpa using this
    · exact q1.elim⟩
end

/-! ### displays -/
section
variable {X : Cx} {f : Fm} {W : WX}
/-- the pairs of a display -/
def mergeD (ks more : List (Key × D)) : List (Key × D) := more.foldl (fun acc kv => putKD acc kv.1 kv.2) ks
theorem merge_rp {g : Gm} {G : Hp} : ∀ {more : List (Key × V)} {mored : List (Key × D)} {kvs : List (Key × V)} {ks : List (Key × D)}, more.map (·.1) = mored.map (·.1) → RpL g G (more.map (·.2)) (mored.map (·.2)) → kvs.map (·.1) = ks.map (·.1) → RpL g G (kvs.map (·.2)) (ks.map (·.2)) →
    (mergeK kvs more).map (·.1) = (mergeD ks mored).map (·.1) ∧ RpL g G ((mergeK kvs more).map (·.2)) ((mergeD ks mored).map (·.2))
  | [], [], _, _, _, _, h, r => ⟨h, r⟩
  | [], _ :: _, _, _, e, _, _, _ => by simp at e
  | _ :: _, [], _, _, e, _, _, _ => by simp at e
  | (a, x) :: more, (b, y) :: mored, kvs, ks, e, r, h, r2 => by
    simp only [List.map_cons, List.cons.injEq] at e r
    obtain ⟨rfl, e⟩ := e
    cases r with
    | cons q1 q2 =>
      obtain ⟨z1, z2⟩ := put_rp (k := a) h r2 q1
      exact merge_rp (kvs := putK kvs a x) (ks := putKD ks a y) e q2 z1 z2
theorem mergeD_len : ∀ (more ks : List (Key × D)), (mergeD ks more).length ≤ ks.length + more.length
  | [], ks => by show ks.length ≤ ks.length + 0; omega
  | p :: r, ks => by
    have h1 := mergeD_len r (putKD ks p.1 p.2)
    have h2 := putKD_len ks p.1 p.2
    show (mergeD (putKD ks p.1 p.2) r).length ≤ _
    rw [List.length_cons]; omega
abbrev PV := Ev → Re (List (D × D))
@[simp] def dpNil : PV := fun ρ => .ok [] ρ
@[simp] def dpCons (k v : EV) (r : PV) : PV := fun ρ => (k ρ).bind fun x ρ1 => (v ρ1).bind fun y ρ2 => (r ρ2).bind fun l ρ3 => .ok ((x, y) :: l) ρ3
def pairsK : List (D × D) → Option (List (Key × D))
  | [] => some []
  | (k, d) :: r => (dKey k).bind fun k => (pairsK r).map fun l => (k, d) :: l
@[simp] def cDic (p : PV) : CV := fun ρ => (p ρ).bind fun l ρ1 => match pairsK l with
  | some ks => if ks.length ≤ 15 then .ok (.dic (mergeD [] ks)) ρ1 else .no
  | none => .no
theorem pairsK_rp {g : Gm} {G : Hp} : ∀ {ps : List (V × V)} {l : List (D × D)} {ks : List (Key × D)}, RpL g G (ps.map (·.1)) (l.map (·.1)) → RpL g G (ps.map (·.2)) (l.map (·.2)) → pairsK l = some ks →
    ∃ kvs : List (Key × V), ps = kvs.map (fun kv => (kV kv.1, kv.2)) ∧ kvs.map (·.1) = ks.map (·.1) ∧ RpL g G (kvs.map (·.2)) (ks.map (·.2))
  | [], [], _, _, _, h => by unfold pairsK at h; cases h; exact ⟨[], rfl, rfl, .nil⟩
  | [], _ :: _, _, r, _, _ => by cases r
  | _ :: _, [], _, r, _, _ => by cases r
  | (x, y) :: ps, (a, b) :: l, _, r, r2, h => by
    unfold pairsK at h
    obtain ⟨k, h1, h2⟩ := Option.bind_eq_some_iff.mp h
    obtain ⟨t, h3, rfl⟩ := Option.map_eq_some_iff.mp h2
    cases r with
    | cons q1 q2 =>
      cases r2 with
      | cons q3 q4 =>
        obtain ⟨kvs, rfl, e1, e2⟩ := pairsK_rp q2 q4 h3
        have ek := key_rp q1 h1
        exact ⟨(k, y) :: kvs, by rw [List.map_cons, ← ek], by rw [List.map_cons, List.map_cons, e1], .cons q3 e2⟩
def tPV (f : Fm) (W : WX) (pv : PV) (σ : L2.St) (H : Hp) (Q : List (V × V) → Hp → Prop) : Prop :=
  ∃ G ρ, FI f G H σ ρ ∧ PostX f W σ G (fun (l : List (D × D)) G' H' => ∀ ps : List (V × V), RpL f.g G' (ps.map (·.1)) (l.map (·.1)) → RpL f.g G' (ps.map (·.2)) (l.map (·.2)) → Q ps H') (pv ρ)
def PXP (X : Cx) (f : Fm) (W : WX) (pos : Pos) (keys : List (Option Expr)) (values : List Expr) (pv : PV) : Prop :=
  ∃ trs, PPs X pos keys values trs ∧ ∀ pr σ H Q, tPV (f.at pr) W pv σ H Q → tPairs trs σ H Q
theorem pxp_nil {pos : Pos} : PXP X f W pos [] [] dpNil := ⟨[], pps_nil, fun pr σ H Q ⟨G, ρ, fi, q⟩ => q G H same_rfl fi [] .nil .nil⟩
theorem pxp_cons {pos : Pos} {k v : Expr} {ks : List (Option Expr)} {vs : List Expr} {ek ev : EV} {pv : PV} (hk : ∀ pr, PX X (f.at pr) W k ek) (hv : ∀ pr, PX X (f.at pr) W v ev) (hr : PXP X f W pos ks vs pv) : PXP X f W pos (some k :: ks) (v :: vs) (dpCons ek ev pv) := by
  obtain ⟨trs, h1, h2⟩ := hr
  refine ⟨_, pps_cons (PE.ex hk) (PE.ex hv) h1, fun pr σ H Q ⟨G, ρ, fi, q⟩ => ?_⟩
  refine ⟨pr, G, ρ, fi, PostX.bind q fun x ρ1 G1 H1 s1 fi1 q1 u ru => ⟨pr, G1, ρ1, fi1, PostX.bind q1 fun y ρ2 G2 H2 s2 fi2 q2 w rw' => ?_⟩⟩
  exact h2 pr σ H2 _ ⟨G2, ρ2, fi2, PostX.bind q2 fun l ρ3 G3 H3 s3 fi3 q3 ps r1 r2 => q3 G3 H3 same_rfl fi3 ((u, w) :: ps) (.cons ((ru.up s2).up s3) r1) (.cons (rw'.up s3) r2)⟩
theorem pxf_dic {pos : Pos} {keys : List (Option Expr)} {values : List Expr} {pv : PV} (h : PXP X f W pos keys values pv) (hall : keys.all (·.isSome) = true := by rfl) (hl : keys.length = values.length := by rfl) (h0 : keys ≠ [] := by exact fun z => by cases z) (h15 : keys.length ≤ 15 := by decide) : PXF X f W (.Dict keys values pos) (cDic pv) := by
  obtain ⟨trs, h1, h2⟩ := h
  refine PE.imp (pe_disp h1 hall hl h0 h15) fun σ H Q ⟨G, ρ, fi, q⟩ p hp => ?_
  have fi0 := fi.lay (o := .dK []) hp
  refine h2 ((p, .dK []) :: f.pr) σ _ _ ⟨G, ρ, fi0, ?_⟩
  cases hpv : pv ρ with
  | no => simp only [cDic, hpv, Re.bind] at q; exact q.elim
  | er e ρ1 =>
    simp only [cDic, hpv, Re.bind] at q
    exact fun cls dd G' H' s fi' er => q cls dd G' H' s (FI.unlay fi') er
  | ok l ρ1 =>
    simp only [cDic, hpv, Re.bind] at q
    intro G' H' s fi' ps r1 r2
    cases hk : pairsK l with
    | none => rw [hk] at q; exact q.elim
    | some ks =>
      simp only [hk] at q
      split at q
      · rename_i hz
        obtain ⟨kvs, rfl, e1, e2⟩ := pairsK_rp r1 r2 hk
        have la := FI.laid (p := p) (o := .dK []) fi'
        have hlen : kvs.length = ks.length := by have := congrArg List.length e1; simpa using this
        obtain ⟨m1, m2⟩ := merge_rp (kvs := []) (ks := []) e1 e2 rfl .nil
        refine ⟨la.1, kvs, rfl, by omega, ?_⟩
        have fi2 := FI.relay (p := p) (o := .dK []) (o' := .dK (mergeK [] kvs)) fi' (fun _ z => by cases z)
        have hb : (mergeD [] ks).length ≤ big := by
          have h3 := mergeD_len ks []
          rw [List.length_nil] at h3
          have h4 : (15 : Nat) ≤ big := by decide
          omega
        exact q p _ G' _ s fi2 ⟨la.2.1, hb, _, upd_same, m1, m2⟩
      · exact q.elim

/-! ### dict(pairs) -/
def pairOf : D → Option (Key × D)
  | .tup [k, d] => (dKey k).map fun k => (k, d)
  | _ => none
def pairsOf : List D → Option (List (Key × D))
  | [] => some []
  | x :: r => (pairOf x).bind fun p => (pairsOf r).map fun l => p :: l
def lDict : List D → Option (List (Key × D))
  | [.lst xs] => (pairsOf xs).map (mergeD [])
  | _ => none
def rXAD (g : Gm) (F : List D → Option (List (Key × D))) : List V → Hp → VK → Prop := fun vs H Q => ∃ G ds r, Same G H ∧ RpL g G vs ds ∧ F ds = some r ∧ ∀ kvs p, kvs.map (·.1) = r.map (·.1) → RpL g G (kvs.map (·.2)) (r.map (·.2)) → H p = none → Q (.ref p) (upd H p (.dK kvs))
@[simp] def cBiD (F : List D → Option (List (Key × D))) (a : AV) : CV := fun ρ => (a ρ).bind fun ds ρ1 => match F ds with
  | some r => if r.length ≤ big then .ok (.dic r) ρ1 else .no
  | none => .no
theorem argsD {av : AV} {F : List D → Option (List (Key × D))} {σ : L2.St} {H : Hp} {Q : VK} (h : tXF f W (cBiD F av) σ H Q) : tCB (rXAD f.g F) (tXA f W av) σ H Q := by
  obtain ⟨G, ρ, fi, q⟩ := h
  refine ⟨G, ρ, fi, PostF.bindX q fun ds ρ1 G1 H1 s1 fi1 q1 vs rvs => ?_⟩
  split at q1
  · rename_i r hF
    split at q1
    · rename_i hb
      refine ⟨G1, ds, r, fi1.gh, rvs, hF, fun kvs p e rw' hp => ?_⟩
      have fi2 := fi1.lay (o := .dK kvs) hp
      exact q1 p _ G1 _ same_rfl fi2 ⟨fi2.laid.2.1, hb, kvs, upd_same, e, rw'⟩
    · exact q1.elim
  · exact q1.elim
theorem pxf_btD {x : Str} {T : String} {av : AV} {F : List D → Option (List (Key × D))} {e : Expr} {es : List Expr} {p pos : Pos} (hc : CallR X (.type T) (rXAD f.g F)) (ha : PXA X f W (e :: es) av) (hm : X.mg x = none) (hg : Gl X x := by rfl) (hv : bootBuiltins x = some (.type T) := by decide +kernel) (hn : x ≠ "__name__" := by decide) (hdb : (x == ("__debug__" : Str)) = false := by decide)
    (he : starEach (e :: es) X.env = (false, eval e X.env) :: starEach es X.env := by rfl) (hpl : (backTo pos (starEach es X.env)).any (·.1) = false := by rfl) : PXF X f W (.Call (.Name x p) (e :: es) [] pos) (cBiD F av) :=
  PE.imp (pe_callTy hc hg hm hv ha hn hdb he hpl) fun _ _ _ h => argsD h
theorem pairsOf_rp {g : Gm} {G H : Hp} (sg : Same G H) : ∀ {vs : List V} {xs : List D} {ks : List (Key × D)}, RpL g G vs xs → pairsOf xs = some ks →
    ∃ (ps : List Addr) (kvs : List (Key × V)), vs = ps.map V.ref ∧ Paired (fun p kv => SqT g.K H p [kV kv.1, kv.2]) ps kvs ∧ kvs.map (·.1) = ks.map (·.1) ∧ RpL g G (kvs.map (·.2)) (ks.map (·.2))
  | _, _, _, .nil, h => by unfold pairsOf at h; cases h; exact ⟨[], [], rfl, .nil, rfl, .nil⟩
  | _, _, _, .cons a b, h => by
    unfold pairsOf at h
    obtain ⟨p, h1, h2⟩ := Option.bind_eq_some_iff.mp h
    obtain ⟨l, h3, rfl⟩ := Option.map_eq_some_iff.mp h2
    obtain ⟨ps, kvs, rfl, hp, e1, e2⟩ := pairsOf_rp sg b h3
    unfold pairOf at h1
    split at h1
    · rename_i k d
      obtain ⟨kk, hk, rfl⟩ := Option.map_eq_some_iff.mp h1
      cases a with
      | tup s n r =>
        rename_i t xs
        cases r with
        | cons r1 r2 =>
          cases r2 with
          | cons r3 r4 =>
            cases r4
            have ek := key_rp r1 hk
            subst ek
            exact ⟨t :: ps, (kk, _) :: kvs, rfl, .cons (sqTS sg s) hp, by rw [List.map_cons, List.map_cons, e1], .cons r3 e2⟩
    · cases h1
theorem cf_dict {g : Gm} (hc : X.calm = true) (hK : X.K = g.K := by rfl) : CallR X (.type "dict") (rXAD g lDict) := by
  intro pins s σ H vs us Q I rv ⟨G, ds, r, sg, rd, hF, q⟩
  unfold lDict at hF
  split at hF
  · rename_i xs
    obtain ⟨ks, hks, rfl⟩ := Option.map_eq_some_iff.mp hF
    obtain ⟨v, rfl, rp⟩ := rpl1 rd
    cases rp with | lst qa na ra =>
    obtain ⟨ps, kvs, rfl, hp, e1, e2⟩ := pairsOf_rp sg ra hks
    obtain ⟨m1, m2⟩ := merge_rp (kvs := []) (ks := []) e1 e2 rfl .nil
    exact call_dictP hc pins s σ H _ us Q I rv ⟨_, ps, kvs, rfl, SqL.of (sg _ _ qa), by rw [hK]; exact hp, fun p hn => q _ p m1 m2 hn⟩
  · cases hF
end
end Dx

set_option Elab.async false
set_option linter.all false
set_option maxRecDepth 100000
set_option maxHeartbeats 4000000
/-! the data layer: comprehensions of dicts -/
namespace Dx
open PySem PySem.Spec PyProof.Rows L2 Gd
/-- a comprehension of a dict over a walk -/
theorem dc_it {J : It} {n : Nat} {G : Hp → Prop} {Y : Nat → Hp → V → Hp → Prop} (w : Walk J n G Y) {g : TG} {tt : TT} {tk tv : TE} {vs : List Nat} {σ : L2.St} {H1 : Hp} {D : Addr} {Qd : Hp → Prop} (Pv : Nat → Hp → Prop) (h0 : Pv 0 (upd H1 D (.dK []))) (hG : ∀ i H, i ≤ n → Pv i H → G H)
    (hs : ∀ i x H H', i < n → Pv i H → Y i H x H' → g x (wipe σ vs) H' fun σ2 H2 => wipe σ2 vs = wipe σ vs ∧ tt σ2 H2 fun b H3 =>
      if b = true then tk σ2 H3 fun y H4 => tv σ2 H4 fun z H5 => ∃ kvs k, y = kV k ∧ H5 D = some (.dK kvs) ∧ kvs.length < sizeLine ∧ Pv (i + 1) (upd H5 D (.dK (putK kvs k z))) else Pv (i + 1) H3) (hd : ∀ H, Pv n H → Qd H) :
    ∃ W : Nat → Nat → Hp → Prop, (∃ m, W 0 m (upd H1 D (.dK []))) ∧ ∀ i m H, W i m H →
      (J.stop i H ∧ Qd H) ∨ (J.go i H ∧ ∃ Nx : Hp → Prop, (∀ H', Nx H' → ∃ m', m' < m ∧ W (i + 1) m' H') ∧ ∀ x H', J.yld i H x H' → g x (wipe σ vs) H' fun σ2 H2 => wipe σ2 vs = wipe σ vs ∧ tt σ2 H2 fun b H3 =>
        if b = true then tk σ2 H3 fun y H4 => tv σ2 H4 fun z H5 => ∃ kvs k, y = kV k ∧ H5 D = some (.dK kvs) ∧ kvs.length < sizeLine ∧ Nx (upd H5 D (.dK (putK kvs k z))) else Nx H3) := by
  refine ⟨fun i m H => m = n - i ∧ i ≤ n ∧ Pv i H, ⟨n, by simp, Nat.zero_le _, h0⟩, ?_⟩
  rintro i m H ⟨rfl, hi, p⟩
  have q := hG i H hi p
  by_cases hlt : i < n
  · exact .inr ⟨w.goes i H hlt q, Pv (i + 1), fun H' p' => ⟨n - (i + 1), by omega, rfl, hlt, p'⟩, fun x H' y => hs i x H H' hlt p (w.yields i H x H' hlt q y)⟩
  · have e : i = n := by omega
    subst e
    exact .inl ⟨w.stops H q, hd H p⟩
def dcL (t : GV) (c : BV) (k e : EV) (vs : List Nat) : List D → Ev → Re (List (Key × D))
  | [] => fun ρ => .ok [] ρ
  | d :: r => fun ρ => match t d ρ with
    | .ok _ ρ1 => (c ρ1).bind fun b ρ2 => match b with
      | true => (k ρ2).bind fun x ρ3 => (e ρ3).bind fun y ρ4 => match dKey x with
        | some kk => (dcL t c k e vs r (wipeE ρ4 vs)).bind fun ys ρ5 => .ok ((kk, y) :: ys) ρ5
        | none => .no
      | false => dcL t c k e vs r (wipeE ρ2 vs)
    | _ => .no
@[simp] def cDc (iv : LV) (t : GV) (c : BV) (k e : EV) (vs : List Nat) : CV := fun ρ => (iv ρ).bind fun ds ρ1 => if noMut ρ1 vs = true ∧ ds.length ≤ big then (match dcL t c k e vs ds (wipeE ρ1 vs) with
    | .ok ys ρ' => .ok (.dic (mergeD [] ys)) (restE ρ' ρ1 vs)
    | _ => .no) else .no
theorem mergeD_snoc (a : List (Key × D)) (p : Key × D) : mergeD [] (a ++ [p]) = putKD (mergeD [] a) p.1 p.2 := by
  unfold mergeD
  rw [List.foldl_append]
  rfl
section
variable {X : Cx} {f : Fm} {W : WX}
theorem dcS {vs ts : List Nat} {σ : L2.St} {H1 G1 : Hp} {ρ1 : Ev} {t : GV} {c : BV} {kx e : EV} {ds : List D} {J : It} {Q : VK} {D : Addr} (hts : ∀ j ∈ ts, j ∈ vs) (fi1 : FI f G1 H1 σ ρ1) (hD : H1 D = none) (hJ : IterOk f.g G1 J ds)
    (q1 : PostF f W σ G1 Q (if noMut ρ1 vs = true ∧ ds.length ≤ big then (match dcL t c kx e vs ds (wipeE ρ1 vs) with
    | .ok ys ρ' => .ok (.dic (mergeD [] ys)) (restE ρ' ρ1 vs)
    | _ => .no) else .no)) : ∃ W : Nat → Nat → Hp → Prop, (∃ m, W 0 m (upd H1 D (.dK []))) ∧ ∀ i m H, W i m H →
      (J.stop i H ∧ Q (.ref D) H) ∨ (J.go i H ∧ ∃ Nx : Hp → Prop, (∀ H', Nx H' → ∃ m', m' < m ∧ W (i + 1) m' H') ∧ ∀ x H', J.yld i H x H' → (fun v σ H Q => ∃ pr, tXG (f.at pr) ts t v σ H Q) x (L2.wipe σ vs) H' fun σ2 H2 => L2.wipe σ2 vs = L2.wipe σ vs ∧ (fun σ H Q => ∃ pr, tXB (f.at pr) W0 c σ H Q) σ2 H2 fun b H3 =>
        if b = true then (fun σ H Q => ∃ pr, tX (f.at pr) W0 kx σ H Q) σ2 H3 fun y H4 => (fun σ H Q => ∃ pr, tX (f.at pr) W0 e σ H Q) σ2 H4 fun z H5 => ∃ kvs k, y = kV k ∧ H5 D = some (.dK kvs) ∧ kvs.length < sizeLine ∧ Nx (upd H5 D (.dK (putK kvs k z))) else Nx H3) := by
  split at q1
  · rename_i hb
    obtain ⟨nm, hlen⟩ := hb
    obtain ⟨Gd, Y, w, gd, yy⟩ := hJ
    have nb := noMut_nobor nm
    cases hL : dcL t c kx e vs ds (wipeE ρ1 vs) with
    | er e ρ => rw [hL] at q1; exact q1.elim
    | no => rw [hL] at q1; exact q1.elim
    | ok ys ρ' =>
      rw [hL] at q1
      refine dc_it (g := fun v σ H Q => ∃ pr, tXG (f.at pr) ts t v σ H Q) (tt := fun σ H Q => ∃ pr, tXB (f.at pr) W0 c σ H Q) (tk := fun σ H Q => ∃ pr, tX (f.at pr) W0 kx σ H Q) (tv := fun σ H Q => ∃ pr, tX (f.at pr) W0 e σ H Q) (vs := vs) (σ := σ) (Qd := fun H => Q (.ref D) H) w
        (fun i H => ∃ G ρi acc as r, FI (f.add D (.dK acc)) G H (L2.wipe σ vs) ρi ∧ Same G1 G ∧ acc.map (·.1) = (mergeD [] as).map (·.1) ∧ RpL f.g G (acc.map (·.2)) ((mergeD [] as).map (·.2)) ∧ as.length ≤ i ∧ dcL t c kx e vs (ds.drop i) ρi = .ok r ρ' ∧ as ++ r = ys)
        ⟨G1, wipeE ρ1 vs, [], [], ys, (fi1.wipe nb).lay hD, same_rfl, rfl, .nil, Nat.le_refl _, by simpa using hL, rfl⟩ (fun i H _ ⟨G, ρi, acc, as, r, fi, s, _⟩ => gd G H s fi.gh) (fun i x H H' hi ⟨G, ρi, acc, as, r, fi, s, ke, rl, hn, hl, he⟩ y => ?_) fun H ⟨G, ρi, acc, as, r, fi, s, ke, rl, hn, hl, he⟩ => ?_
      · obtain ⟨G3, d, ext, hd, rp⟩ := yy i H x H' y G s fi.gh
        rw [List.drop_eq_getElem_cons hi, show ds[i] = d by rw [List.getElem?_eq_getElem hi] at hd; exact Option.some.inj hd] at hl
        unfold dcL at hl
        have fi' := fi.ext ext
        cases ht : t d ρi with
        | er e ρ => rw [ht] at hl; cases hl
        | no => rw [ht] at hl; cases hl
        | ok a ρa =>
          simp only [ht] at hl
          refine ⟨(D, .dK acc) :: f.pr, G3, ρi, d, fi', rp, ?_⟩
          rw [ht]
          refine fun σ2 G4 H4 s4 fi4 kj ll => ?_
          have we : L2.wipe σ2 vs = L2.wipe σ vs := wipe_eq (fun j hj => kj j fun z => hj (hts j z)) ll
          have nbr : ∀ {G5 H5 : Hp} {ρ5 : Ev}, FI (f.add D (.dK acc)) G5 H5 σ2 ρ5 → ∀ v ∈ vs, ∀ c, ρ5[v]? ≠ some (.bor c) := fun fi5 => FI.nobor fi1 fi5 rfl nb
          refine ⟨we, (D, .dK acc) :: f.pr, G4, ρa, fi4, ?_⟩
          cases hc : c ρa with
          | er e ρ => simp only [hc, Re.bind] at hl; cases hl
          | no => simp only [hc, Re.bind] at hl; cases hl
          | ok k ρb =>
            simp only [hc, Re.bind] at hl
            intro G5 H5 s5 fi5
            have s15 : Same G1 G5 := same_trans s (same_trans ext.g (same_trans s4 s5))
            cases k with
            | false =>
              dsimp only at hl ⊢
              rw [if_neg Bool.false_ne_true]
              have := fi5.wipe (nbr fi5)
              rw [we] at this
              exact ⟨G5, _, acc, as, r, this, s15, ke, ((rl.up ext.g).up s4).up s5, Nat.le_succ_of_le hn, hl, he⟩
            | true =>
              dsimp only at hl ⊢
              rw [if_pos rfl]
              refine ⟨(D, .dK acc) :: f.pr, G5, ρb, fi5, ?_⟩
              cases hE : kx ρb with
              | er e ρ => simp only [hE] at hl; cases hl
              | no => simp only [hE] at hl; cases hl
              | ok yd ρc =>
                simp only [hE] at hl
                intro G6 H6 s6 fi6 v rv
                refine ⟨(D, .dK acc) :: f.pr, G6, ρc, fi6, ?_⟩
                cases hF : e ρc with
                | er e ρ => simp only [hF] at hl; cases hl
                | no => simp only [hF] at hl; cases hl
                | ok zd ρd =>
                  simp only [hF] at hl
                  intro G7 H7 s7 fi7 u ru
                  cases hK : dKey yd with
                  | none => simp only [hK] at hl; cases hl
                  | some kk =>
                    simp only [hK] at hl
                    cases hR : dcL t c kx e vs (ds.drop (i + 1)) (wipeE ρd vs) with
                    | er e ρ => simp only [hR] at hl; cases hl
                    | no => simp only [hR] at hl; cases hl
                    | ok zs ρz =>
                      simp only [hR] at hl
                      cases hl
                      have ek := key_rp rv hK
                      have rl7 := ((((rl.up ext.g).up s4).up s5).up s6).up s7
                      obtain ⟨z1, z2⟩ := put_rp (k := kk) ke rl7 ru
                      have := (fi7.wipe (nbr fi7)).relay (o' := .dK (putK acc kk u)) (fun q z => nomatch z)
                      rw [we] at this
                      refine ⟨acc, kk, ek, fi7.laid.1, ?_, G7, _, putK acc kk u, as ++ [(kk, zd)], zs, this, same_trans s15 (same_trans s6 s7), by rw [mergeD_snoc]; exact z1, by rw [mergeD_snoc]; exact z2, by rw [List.length_append]; simpa using hn, hR, by rw [List.append_assoc]; exact he⟩
                      have l1 : acc.length = (mergeD [] as).length := by have := congrArg List.length ke; simpa using this
                      have l2 := mergeD_len as []
                      rw [List.length_nil] at l2
                      rw [l1]
                      have : i < big := Nat.lt_of_lt_of_le hi hlen
                      exact Nat.lt_of_lt_of_le (by omega : (mergeD [] as).length < big) big_le
      · rw [List.drop_length] at hl
        unfold dcL at hl
        cases hl
        rw [List.append_nil] at he
        subst he
        have l2 := mergeD_len as []
        rw [List.length_nil] at l2
        exact q1 D _ G H s (FI.unwipe fi fi1 rfl rfl s nm) ⟨fi.laid.2.1, by omega, acc, fi.laid.1, ke, rl⟩
  · exact q1.elim
theorem pxf_dc {kt elt tg iter : Expr} {ifs : List Expr} {scope : Scope} {own : List (Str × Nat)} {pos : Pos} {iv : LV} {t : GV} {c : BV} {k e : EV} {ts : List Nat} (hc : X.calm = true) (hN : X.N.Nodup) (hi : PXI X f W tg iter iv) (ok : BlkOk X.N X.env.scope scope own)
    (hts : ∀ j ∈ ts, j ∈ own.map (·.2)) (hg : ∀ (s : Shared) (H : Hp) (C : Addr) (cl : List (Str × Addr)) (fp : List Addr) (pr : List (Addr × HO)), PXG (X.blk s H scope (compEnvC scope cl C X.env) fp) (f.at pr) tg ts t)
    (ht : ∀ (s : Shared) (H : Hp) (C : Addr) (cl : List (Str × Addr)) (fp : List Addr) (pr : List (Addr × HO)), PXTs (X.blk s H scope (compEnvC scope cl C X.env) fp) (f.at pr) W0 ifs c)
    (hk : ∀ (s : Shared) (H : Hp) (C : Addr) (cl : List (Str × Addr)) (fp : List Addr) (pr : List (Addr × HO)), PX (X.blk s H scope (compEnvC scope cl C X.env) fp) (f.at pr) W0 kt k)
    (he : ∀ (s : Shared) (H : Hp) (C : Addr) (cl : List (Str × Addr)) (fp : List Addr) (pr : List (Addr × HO)), PX (X.blk s H scope (compEnvC scope cl C X.env) fp) (f.at pr) W0 elt e) (hs : ∀ x, foldedSetIterable iter X.env x = pure x := by intro _; rfl) :
    PXF X f W (.DictComp kt elt [⟨tg, iter, ifs, 0⟩] scope pos) (cDc iv t c k e (own.map (·.2))) :=
  PE.imp (pe_dc hc hN hi ok (fun s H C cl fp => PG.ex (hg s H C cl fp)) (fun s H C cl fp => PTs.ex (ht s H C cl fp)) (fun s H C cl fp => PE.ex (hk s H C cl fp)) (fun s H C cl fp => PE.ex (he s H C cl fp)) hs) fun σ H Q ⟨G, ρ, fi, q⟩ =>
    ⟨G, ρ, fi, PostF.bindX q fun ds ρ1 G1 H1 s1 fi1 q1 J hJ D hD => dcS hts fi1 hD hJ q1⟩
end

/-! ### xs[::-1] -/
section
open HT
variable {prog : Program} {w : World} {A : Around} {E : Value → Shared → Prop} {s : Shared}
theorem sliceApplied_rev {sl : Addr} {vl vu vs : Value} {n : Nat} {Q : Int × Int × Nat → Shared → Prop} (hs : s.heap.IsSliceOf sl vl vu vs) (pl : IsPart vl none) (pu : IsPart vu none) (ps : IsPart vs (some (-1)))
    (h : Q ((n : Int) - 1, -1, n) s) : wpAny (model prog w) A (Builtin.Slice.sliceApplied (.ref sl) (pure (n : Int))) Q E s := by
  obtain ⟨os, hos, hcs, hds⟩ := id hs
  unfold Builtin.Slice.sliceApplied Builtin.Slice.sliceFields
  refine wpAny_bind (wpAny_bind (wpAny_field hos hds (x := vl) rfl (wpAny_bind (wpAny_field hos hds (x := vu) rfl (wpAny_bind (wpAny_field hos hds (x := vs) rfl (wpAny_pure ?_)))))))
  refine wpAny_bind (slicePart_ ps ?_)
  show wpAny _ _ (if ((-1 : Int) == 0) = true then _ else _) _ _ s
  rw [if_neg (by decide)]
  refine wpAny_bind (slicePart_ pl (wpAny_bind (slicePart_ pu (wpAny_bind (wpAny_pure ?_)))))
  have e : Builtin.Slice.slicePlaces ((n : Int) - 1) (-1) (-1) = n := by
    unfold Builtin.Slice.slicePlaces
    rw [if_neg (by decide : ¬ (-1 : Int) > 0)]
    by_cases hn : (n : Int) - 1 > -1
    · rw [if_pos hn, show (-(-1 : Int)) = 1 by decide, Int.ediv_one]
      omega
    · rw [if_neg hn]
      have : n = 0 := by omega
      subst this
      rfl
  show wpAny _ _ (pure ((n : Int) - 1, (-1 : Int), Builtin.Slice.slicePlaces ((n : Int) - 1) (-1) (-1))) _ _ s
  rw [e]
  exact wpAny_pure h
theorem pick_rev (xs : Array Value) : ((List.range xs.size).filterMap fun (m : Nat) => xs[((xs.size : Int) - 1 + (m : Int) * -1).toNat]?).toArray = xs.toList.reverse.toArray := by
  rw [← PySem.W.krv_pick xs]
  unfold slicePick
  rw [PySem.W.krv_bounds]
  show _ = ((sliceRange ((xs.size : Int) - 1) (-1) (-1)).filterMap (xs[·]?)).toArray
  rw [PySem.W.krv_sliceRange, List.filterMap_map]
  have e : ∀ l : List Nat, (∀ m ∈ l, m < xs.size) → (l.filterMap fun (m : Nat) => xs[((xs.size : Int) - 1 + (m : Int) * -1).toNat]?) = l.filterMap ((fun x => xs[x]?) ∘ fun k => xs.size - 1 - k) := by
    intro l
    induction l with
    | nil => intro _; rfl
    | cons m r ih =>
      intro h
      have hm := h m List.mem_cons_self
      have e : ((xs.size : Int) - 1 + (m : Int) * -1).toNat = xs.size - 1 - m := by omega
      rw [List.filterMap_cons, List.filterMap_cons, ih fun k hk => h k (List.mem_cons_of_mem _ hk), e]
      rfl
  rw [e _ fun m hm => List.mem_range.mp hm]
theorem getItem_tuple_rev {t sl : Addr} {items : Array Value} {vl vu vs : Value} {Q : Value → Shared → Prop} (ht : IsTup s.heap t items) (hs : s.heap.IsSliceOf sl vl vu vs) (pl : IsPart vl none) (pu : IsPart vu none) (ps : IsPart vs (some (-1)))
    (h : Q (.ref s.heap.objs.size) { s with heap := s.heap.push { cls := .type "tuple", data := .seq items.toList.reverse.toArray } }) (hsz : items.size ≤ sizeLine) : wpAny (model prog w) A (getItem (.ref t) (.ref sl)) Q E s := by
  have htake : sizeOk (.seq items.toList.reverse.toArray) := by
    show items.toList.reverse.toArray.size ≤ sizeLine
    rw [List.size_toArray, List.length_reverse, Array.length_toList]
    exact hsz
  obtain ⟨os, hos, hcs, hds⟩ := id hs
  have hTs : s.TypeIs (.ref sl) "slice" := ⟨os, hos, hcs⟩
  unfold getItem
  try with_reducible refine wpAny_holding ?_
  first | refine wpAny_bind (wpAny_pure ?_) | skip
  refine wpAny_bind (wpAny_sequenceKey ht.typeIs (by decide) ?_)
  refine wpAny_bind (wpAny_callSpecial?_slot (name := Str.ofString "__getitem__") ht.typeIs PyProof.Rows.slot_tuple_getitem
    (wpAny_call_entry PyProof.Rows.slot_tuple_getitem ht.typeIs entry_tuple_getitem ?_ (args_tuple_getitem _ _)))
  show wpAny _ _ (Builtin.Tuple.tupleItemsOf (.ref t) >>= _) _ _ s
  refine wpAny_bind (tupleItemsOf_ ht ?_)
  refine wpAny_bind (wpAny_typeOf hTs ?_)
  rw [if_pos (by decide)]
  refine wpAny_bind (sliceApplied_rev hs pl pu ps ?_)
  have hno : ¬ (((items.size : Int) - 1 == 0 && (-1 : Int) == 1 && items.size == items.size) = true) := by
    intro q
    rw [Bool.and_eq_true, Bool.and_eq_true] at q
    exact absurd q.1.2 (by decide)
  show wpAny _ _ (if (((items.size : Int) - 1) == 0 && (-1 : Int) == 1 && items.size == items.size) = true then _ else _) _ _ s
  rw [if_neg hno, pick_rev]
  first
    | exact wpAny_bind (m := Builtin.Tuple.tupleExact _) (wpAny_newObj_type (wpAny_pure ⟨_, rfl, wpAny_pure h⟩) htake)
    | exact wpAny_bind (m := Builtin.Tuple.tupleExact _) (wpAny_newObj_type (wpAny_bind (wpAny_pure (wpAny_pure ⟨_, rfl, wpAny_pure h⟩))) htake)
    | exact wpAny_bind (wpAny_bind (m := Builtin.Tuple.tupleExact _) (wpAny_newObj_type (wpAny_pure (wpAny_pure ⟨_, rfl, wpAny_pure h⟩)) htake))
    | exact wpAny_bind (wpAny_bind (m := Builtin.Tuple.tupleExact _) (wpAny_newObj_type (wpAny_pure ⟨_, rfl, wpAny_pure h⟩) htake))
end
section
variable {X : Cx} {f : Fm} {W : WX} {e : Expr} {te : TE}
def tRevT (K : PySem.W.Frag) (te : TE) : TE := fun σ H Q => te σ H fun x H1 => ∃ a xs, x = .ref a ∧ SqT K H1 a xs ∧ ∀ p, H1 p = none → Q (.ref p) (upd H1 p (.tup xs.reverse))
theorem pe_revT {k : Nat} {p1 p2 p3 pos : Pos} (he : PE X e te) : PE X (.Subscript e (.Slice none none (some (.UnaryOp .USub (.Constant (.int 1) k p1) p2)) p3) pos) (tRevT X.K te) := by
  refine ⟨fun pins s σ H Q I h => ?_⟩
  refine Subscript_ (thn (he.run pins s σ H _ I h) fun v s1 ⟨x, H1, I1, r1, q1⟩ => ?_)
  obtain ⟨a, xs, ex, hx, q⟩ := q1
  subst ex
  cases r1
  have hst : PO X (some (.UnaryOp .USub (.Constant (.int 1) k p1) p2)) (tPart (tUn (rU fun i => .int (-i)) (tC (.int 1)))) := po_some (pe_un un_neg pe_int)
  refine wpAny_Slice (thn (po_none.run pins s1 σ H1 (fun o H2 => o = none ∧ H2 = H1) I1 ⟨rfl, rfl⟩) fun vl s2 ⟨l, H2, I2, pl, el, e2⟩ => ?_)
  subst el e2
  refine thn (po_none.run pins s2 σ H2 (fun o H3 => o = none ∧ H3 = H2) I2 ⟨rfl, rfl⟩) fun vu s3 ⟨u, H3, I3, pu, eu, e3⟩ => ?_
  subst eu e3
  refine thn (hst.run pins s3 σ H3 (fun o H4 => o = some (-1) ∧ H4 = H3) I3 ⟨1, rfl, -1, rfl, rfl, rfl⟩) fun vs s4 ⟨o, H4, I4, ps, eo, e4⟩ => ?_
  subst eo e4
  have I5 : Inv X pins σ H4 { s4 with heap := s4.heap.push { cls := .type "slice", data := .fields #[vl, vu, vs] } } := I4.kept (t' := s4.toks) fun b ob q => Heap.get?_push_of_some _ q
  obtain ⟨its, r, ht, hz⟩ := I5.tuple hx
  have hlen := r.length
  show wpAny (model X.prog X.w) X.A (subscriptTail e (.Slice none none (some (.UnaryOp .USub (.Constant (.int 1) k p1) p2)) p3) (.ref a) (.ref s4.heap.objs.size)) (EP X pins σ Q) X.xe { s4 with heap := s4.heap.push { cls := .type "slice", data := .fields #[vl, vu, vs] } }
  refine tail_any (ops := [.ref a, .ref s4.heap.objs.size]) ht.typeIs (PyProof.Rows.slot_tuple_getitem.lookup) ?_ (by with_unfolding_all rfl)
  refine getItem_tuple_rev ht (Heap.IsSliceOf.new _ vl vu vs) pl pu ps ?_ (by rw [List.size_toArray]; omega)
  refine ⟨.ref _, _, I5.laid (t' := s4.toks) (o := .tup xs.reverse) (fun b ob q => Heap.get?_push_of_some _ q) (Nat.le_refl _) ?_, rfl, q _ (I5.hok.fresh (Nat.le_refl _))⟩
  exact ⟨by rw [List.length_reverse]; exact hz, _, r.reverse, IsTup.new _ _⟩
def dRev : D → Option D
  | .tup xs => some (.tup xs.reverse)
  | .lst xs => some (.lst xs.reverse)
  | _ => none
theorem RpL.rev {g : Gm} {G : Hp} : ∀ {vs : List V} {ds : List D}, RpL g G vs ds → RpL g G vs.reverse ds.reverse
  | _, _, .nil => .nil
  | _, _, .cons a b => by
    rw [List.reverse_cons, List.reverse_cons]
    exact RpL.app (RpL.rev b) (.cons a .nil)
theorem PE.or {t t' : TE} (h : PE X e t) (h' : PE X e t') : PE X e (fun σ H Q => t σ H Q ∨ t' σ H Q) := ⟨fun pins s σ H Q I q => q.elim (h.run pins s σ H Q I) (h'.run pins s σ H Q I)⟩
theorem px_rev {ev : EV} {k : Nat} {p1 p2 p3 pos : Pos} (h : PX X f W e ev) (hk : X.K = f.g.K := by rfl) : PX X f W (.Subscript e (.Slice none none (some (.UnaryOp .USub (.Constant (.int 1) k p1) p2)) p3) pos) (eUn dRev ev) :=
  PE.imp (PE.or (pe_revL h) (pe_revT h)) fun σ H Q ⟨G, ρ, fi, q⟩ => by
    cases he : ev ρ with
    | no => simp only [eUn, he, Re.bind] at q; exact q.elim
    | er e ρ1 => simp only [eUn, he, Re.bind] at q; exact .inl ⟨G, ρ, fi, by rw [he]; exact q⟩
    | ok d ρ1 =>
      simp only [eUn, he, Re.bind] at q
      cases d with
      | lst xs =>
        refine .inl ⟨G, ρ, fi, ?_⟩
        rw [he]
        intro G1 H1 s1 fi1 v rv
        cases rv with | lst qa na ra =>
        rename_i vs
        refine ⟨_, _, rfl, SqL.of (fi1.gh _ _ qa), fun p hp => ?_⟩
        have x := Ext.new (o := .lst vs.reverse) fi1.gh hp
        exact q _ _ (same_trans s1 x.g) (fi1.ext x) _ (.lst upd_same (by rw [List.length_reverse]; exact na) ((RpL.rev ra).up x.g))
      | tup xs =>
        refine .inr ⟨G, ρ, fi, ?_⟩
        rw [he]
        intro G1 H1 s1 fi1 v rv
        cases rv with | tup qa na ra =>
        rename_i vs
        refine ⟨_, _, rfl, by rw [hk]; exact sqTS fi1.gh qa, fun p hp => ?_⟩
        have x := Ext.new (o := .tup vs.reverse) fi1.gh hp
        exact q _ _ (same_trans s1 x.g) (fi1.ext x) _ (.tup (SqT.of upd_same) (by rw [List.length_reverse]; exact na) ((RpL.rev ra).up x.g))
      | _ => exact q.elim
end
end Dx

set_option Elab.async false
set_option linter.all false
set_option maxRecDepth 100000
set_option maxHeartbeats 4000000
/-! the data layer: where a keyword-only parameter's value comes from; enumerate of a tuple -/
namespace Dx
open PySem PySem.Spec PyProof.Rows L2 Gd
/-- positions, then for each keyword-only parameter the i-th keyword (true, i) or the i-th default (false, i) -/
def pickS (src : List (Bool × Nat)) {α : Type} (us mv ws : List α) : List α := us ++ src.flatMap fun p => ((if p.1 = true then ws else mv)[p.2]?).toList
theorem vals_opt : ∀ {vs : List V} {us : List Value} (i : Nat), Vals vs us → Vals (vs[i]?).toList (us[i]?).toList
  | _, _, _, .nil => .nil
  | _, _, 0, .cons r _ => .cons r .nil
  | _, _, i + 1, .cons _ t => by simpa using vals_opt i t
theorem rpl_opt {g : Gm} {G : Hp} : ∀ {vs : List V} {us : List D} (i : Nat), RpL g G vs us → RpL g G (vs[i]?).toList (us[i]?).toList
  | _, _, _, .nil => .nil
  | _, _, 0, .cons r _ => .cons r .nil
  | _, _, i + 1, .cons _ t => by simpa using rpl_opt i t
theorem pickS_vals {vs mz zs : List V} {us mv ws : List Value} : ∀ (src : List (Bool × Nat)), Vals vs us → Vals mz mv → Vals zs ws → Vals (pickS src vs mz zs) (pickS src us mv ws) := fun src a b c => by
  unfold pickS
  refine a.append ?_
  induction src with
  | nil => exact .nil
  | cons p r ih =>
    rw [List.flatMap_cons, List.flatMap_cons]
    refine Vals.append ?_ ih
    cases p.1 with
    | true => exact vals_opt _ c
    | false => exact vals_opt _ b
theorem pickS_rp {g : Gm} {G : Hp} {vs mz zs : List V} {us mv ws : List D} : ∀ (src : List (Bool × Nat)), RpL g G vs us → RpL g G mz mv → RpL g G zs ws → RpL g G (pickS src vs mz zs) (pickS src us mv ws) := fun src a b c => by
  unfold pickS
  refine a.app ?_
  induction src with
  | nil => exact .nil
  | cons p r ih =>
    rw [List.flatMap_cons, List.flatMap_cons]
    refine RpL.app ?_ ih
    cases p.1 with
    | true => exact rpl_opt _ c
    | false => exact rpl_opt _ b
theorem pickS_len {α : Type} {us mv ws : List α} : ∀ (src : List (Bool × Nat)), (src.all fun p => decide (p.2 < if p.1 = true then ws.length else mv.length)) = true → (pickS src us mv ws).length = us.length + src.length := fun src h => by
  unfold pickS
  rw [List.length_append]
  congr 1
  induction src with
  | nil => rfl
  | cons p r ih =>
    rw [List.all_cons, Bool.and_eq_true, decide_eq_true_eq] at h
    rw [List.flatMap_cons, List.length_append, ih h.2, List.length_cons]
    have : ((if p.1 = true then ws else mv)[p.2]?).toList.length = 1 := by
      cases hp : p.1 with
      | true =>
        have h1 := h.1
        rw [hp] at h1
        simp only [if_true] at h1 ⊢
        rw [List.getElem?_eq_getElem h1]
        rfl
      | false =>
        have h1 := h.1
        rw [hp] at h1
        simp only [Bool.false_eq_true, if_false] at h1 ⊢
        rw [List.getElem?_eq_getElem h1]
        rfl
    omega
section
variable {P : Program} {w : World} {K : PySem.W.Frag} {mg : Str → Option Value} {base : Heap} {b : Bool} {k : Nat} {f : Addr} {name qual : Str} {params : Arguments} {body : List Stmt} {scope : Scope} {kws : List (Str × V)} {fd : FuncData} {N qs : List Str} {pv : Str} {sv : SV}
theorem fnxS1 (F : FunD K name qual params body scope [] kws f fd) (S : FnScope N (qs ++ [pv]) scope) (n : Nat) (ks : List Str) (ms : List (Str × V)) (dd : List D) (src : List (Bool × Nat)) (hms : ∀ q ∈ ms, q ∈ kws) (hdd : ∀ G, RpL ⟨K, mg⟩ G (ms.map (·.2)) dd)
    (hsr : (src.all fun p => decide (p.2 < if p.1 = true then ks.length else ms.length)) = true) (hn : n + src.length = qs.length)
    (hb : ∀ (D : Addr) (kV doc pm : Value) (an : Option Addr) (cdv ct : Value) (us rest mv ws : List Value), (kV = .ref D ∨ kws = []) → us.length = n → mv.length = ms.length → ws.length = ks.length →
      KwC D ((ms.map (·.1)).zip mv) (bindArgs (PySem.W.fnOf name qual params body scope .none kV doc pm an cdv ct) ⟨us ++ rest, ks.zip ws⟩) (newTuple rest >>= fun t => pure (qs.zip (pickS src us mv ws) ++ [(pv, t)])))
    (B : BodyX P w K mg base b k N qual scope f body sv) :
    FnG P w K mg base b (k + 1) f ks (spK ⟨K, mg⟩ fun ds es => if n ≤ ds.length ∧ es.length = ks.length ∧ ds.length ≤ big then noC (fnB N.length 0 (qs.length + 1) sv [] (pickS src (ds.take n) dd es ++ [.tup (ds.drop n)])) else .no) :=
  fnxS F S n ks ms dd (fun {α} => @pickS src α) hms hdd (pickS_vals src) (pickS_rp src) (fun us mv ws h1 h2 h3 => by rw [pickS_len src (by rw [h2, h3]; exact hsr), h1, hn]) hb B
theorem fnxN1 (F : FunD K name qual params body scope [] kws f fd) (S : FnScope N qs scope) (n : Nat) (ks : List Str) (ms : List (Str × V)) (dd : List D) (src : List (Bool × Nat)) (hms : ∀ q ∈ ms, q ∈ kws) (hdd : ∀ G, RpL ⟨K, mg⟩ G (ms.map (·.2)) dd)
    (hsr : (src.all fun p => decide (p.2 < if p.1 = true then ks.length else ms.length)) = true) (hn : n + src.length = qs.length)
    (hb : ∀ (D : Addr) (kV doc pm : Value) (an : Option Addr) (cdv ct : Value) (us mv ws : List Value), (kV = .ref D ∨ kws = []) → us.length = n → mv.length = ms.length → ws.length = ks.length →
      KwC D ((ms.map (·.1)).zip mv) (bindArgs (PySem.W.fnOf name qual params body scope .none kV doc pm an cdv ct) ⟨us, ks.zip ws⟩) (pure (qs.zip (pickS src us mv ws))))
    (B : BodyX P w K mg base b k N qual scope f body sv) :
    FnG P w K mg base b (k + 1) f ks (spK ⟨K, mg⟩ fun ds es => if ds.length = n ∧ es.length = ks.length then fnB N.length 0 qs.length sv [] (pickS src ds dd es) else .no) :=
  fnxN F S n ks ms dd (fun {α} => @pickS src α) hms hdd (pickS_vals src) (pickS_rp src) (fun us mv ws h1 h2 h3 => by rw [pickS_len src (by rw [h2, h3]; exact hsr), h1, hn]) hb B
end
/-- how many values keywords give -/
abbrev AKl (kv : AV) (n : Nat) : Prop := ∀ ρ ds ρ', kv ρ = .ok ds ρ' → ds.length = n
theorem akl_nil : AKl aNil 0 := fun ρ ds ρ' h => by simp only [aNil] at h; cases h; rfl
theorem akl_cons {e : EV} {kv : AV} {n : Nat} (h : AKl kv n) : AKl (aCons e kv) (n + 1) := fun ρ ds ρ' h2 => by
  simp only [aCons] at h2
  cases he : e ρ with
  | no => rw [he] at h2; cases h2
  | er x ρ1 => rw [he] at h2; cases h2
  | ok d ρ1 =>
    rw [he] at h2
    simp only [Re.bind] at h2
    cases hk : kv ρ1 with
    | no => rw [hk] at h2; cases h2
    | er x ρ2 => rw [hk] at h2; cases h2
    | ok es ρ2 =>
      rw [hk] at h2
      simp only [Re.bind] at h2
      cases h2
      rw [List.length_cons, h _ _ _ hk]
end Dx

set_option Elab.async false
set_option linter.all false
set_option maxRecDepth 100000
set_option maxHeartbeats 4000000
/-! the data layer: running a def's function -/
namespace Dx
open PySem PySem.Spec PyProof.Rows L2 Gd
@[simp] theorem bind_ok {α β : Type} (a : α) (ρ : Ev) (k : α → Ev → Re β) : (Re.ok a ρ).bind k = k a ρ := rfl
@[simp] theorem bind_er {α β : Type} (e : Er) (ρ : Ev) (k : α → Ev → Re β) : (Re.er e ρ : Re α).bind k = .er e ρ := rfl
@[simp] theorem bind_no {α β : Type} (k : α → Ev → Re β) : (Re.no : Re α).bind k = .no := rfl
/-- a match: simp looks at what is matched first -/
theorem bind_m {α β : Type} (r : Re α) (k : α → Ev → Re β) : r.bind k = match r with
  | .ok a ρ => k a ρ
  | .er e ρ => .er e ρ
  | .no => .no := by cases r <;> rfl
@[simp] theorem cell_bor (c : Cell) : (Slot.bor c).cell = some c := rfl
@[simp] theorem cell_own (c : Cell) : (Slot.own c).cell = some c := rfl
@[simp] theorem put_bor (c c' : Cell) : (Slot.bor c).put c' = .bor c' := rfl
@[simp] theorem put_own (c c' : Cell) : (Slot.own c).put c' = .own c' := rfl
@[simp] theorem toD_lst (xs : List D) : (Cell.lst xs).toD = .lst xs := rfl
@[simp] theorem toD_dic (xs : List (Key × D)) : (Cell.dic xs).toD = .dic xs := rfl
@[simp] theorem frz_lst (xs : List D) : (Cell.lst xs).frz = some (.lst xs) := rfl
@[simp] theorem frz_dic (xs : List (Key × D)) : (Cell.dic xs).frz = some (.dic xs) := rfl
theorem eV_dat {i : Nat} {ρ : Ev} {d : D} (h : ρ[i]? = some (.dat d)) : eV i ρ = .ok d ρ := by simp only [eV, h]
end Dx

set_option Elab.async false
set_option linter.all false
set_option maxRecDepth 100000
set_option maxHeartbeats 4000000
/-! texts of data are short and fine -/
namespace Dx
open PySem PySem.PyData
theorem sk_mem {x : Str} : strOk x = true ↔ ∀ c ∈ x.cps.toList, c < 0x110000 := by
  unfold strOk
  rw [Array.all_eq_true_iff_forall_mem]
  simp [Array.mem_toList_iff]
theorem sk_str (s : String) : strOk (s : Str) = true := by
  rw [sk_mem]
  show ∀ c ∈ (Str.ofString s).cps.toList, _
  rw [Str.ofString_eq_toList]
  intro c hc
  simp only [List.mem_map] at hc
  obtain ⟨d, _, rfl⟩ := hc
  have h := d.valid
  show d.val.toNat < _
  rcases h with h | h
  · exact Nat.lt_trans h (by decide)
  · exact h.2
theorem sk_app {x y : Str} (a : strOk x = true) (b : strOk y = true) : strOk (x ++ y) = true := by
  rw [sk_mem] at *
  intro c hc
  have e : (x ++ y).cps.toList = x.cps.toList ++ y.cps.toList := by
    show (x.cps ++ y.cps).toList = _
    simp
  rw [e, List.mem_append] at hc
  rcases hc with h | h
  · exact a c h
  · exact b c h
theorem sk_join {s : Str} (hs : strOk s = true) : ∀ ts : List Str, (∀ t ∈ ts, strOk t = true) → strOk (Str.join s ts) = true
  | [], _ => by show strOk Str.empty = true; rw [sk_mem]; intro c hc; simp [Str.empty] at hc
  | [x], h => h x List.mem_cons_self
  | x :: y :: r, h => sk_app (sk_app (h x List.mem_cons_self) hs) (sk_join hs (y :: r) fun t ht => h t (List.mem_cons_of_mem _ ht))
theorem sk_textFrom : ∀ (ts : List Str) (k : Nat) (acc : Str), strOk acc = true → (∀ t ∈ ts, strOk t = true) → strOk (textFrom k acc ts) = true
  | [], _, _, h, _ => h
  | t :: r, k, acc, h, g => sk_textFrom r (k + 1) _ (sk_app (sk_app h (by split <;> exact sk_str _)) (g t List.mem_cons_self)) fun t ht => g t (List.mem_cons_of_mem _ ht)
theorem sk_hex (c w : Nat) : ∀ d ∈ (let d := (Nat.toDigits 16 c).map Char.toNat; List.replicate (w - d.length) 48 ++ d), d < 0x110000 := by
  intro d hd
  simp only [List.mem_append, List.mem_replicate, List.mem_map] at hd
  rcases hd with ⟨_, rfl⟩ | ⟨e, _, rfl⟩
  · decide
  · show e.val.toNat < _
    rcases e.valid with h | h
    · exact Nat.lt_trans h (by decide)
    · exact h.2
theorem sk_char {q c : Nat} (hc : c < 0x110000) : ∀ d ∈ Builtin.Str.reprChar q c, d < 0x110000 := by
  intro d hd
  unfold Builtin.Str.reprChar at hd
  have two : ∀ {a b : Nat}, a < 0x110000 → b < 0x110000 → d ∈ [a, b] → d < 0x110000 := fun ha hb h => by
    simp only [List.mem_cons, List.not_mem_nil, or_false] at h
    rcases h with rfl | rfl
    · exact ha
    · exact hb
  simp only at hd
  split at hd
  · exact two (by decide) hc hd
  split at hd
  · exact two (by decide) (by decide) hd
  split at hd
  · exact two (by decide) (by decide) hd
  split at hd
  · exact two (by decide) (by decide) hd
  split at hd
  · simp only [List.mem_cons, List.not_mem_nil, or_false] at hd; subst hd; exact hc
  split at hd
  · rcases List.mem_append.mp hd with h | h
    · exact two (by decide) (by decide) h
    · exact sk_hex c 2 d h
  split at hd
  · rcases List.mem_append.mp hd with h | h
    · exact two (by decide) (by decide) h
    · exact sk_hex c 4 d h
  · rcases List.mem_append.mp hd with h | h
    · exact two (by decide) (by decide) h
    · exact sk_hex c 8 d h
theorem sk_fold (q : Nat) : ∀ (l : List Nat) (acc : Array Nat), (∀ c ∈ l, c < 0x110000) → (∀ c ∈ acc.toList, c < 0x110000) → ∀ c ∈ (l.foldl (fun out c => out ++ (Builtin.Str.reprChar q c).toArray) acc).toList, c < 0x110000
  | [], _, _, h => h
  | c :: r, acc, h, g => sk_fold q r _ (fun x hx => h x (List.mem_cons_of_mem _ hx)) fun x hx => by
    simp only [Array.toList_append, List.mem_append] at hx
    rcases hx with hx | hx
    · exact g x hx
    · exact sk_char (h c List.mem_cons_self) x hx
theorem sk_repr {x : Str} (h : strOk x = true) : strOk (reprText x) = true := by
  rw [sk_mem] at *
  have hq : reprQuote x < 0x110000 := by unfold reprQuote; split <;> decide
  unfold reprText
  intro c hc
  simp only [Array.toList_push, List.mem_append, List.mem_singleton] at hc
  rcases hc with hc | rfl
  · rw [← Array.foldl_toList] at hc
    exact sk_fold _ _ _ h (fun y hy => by simp at hy; subst hy; exact hq) c hc
  · exact hq
mutual
theorem sk_shown : ∀ p : PyData, leavesFit p = true → strOk (shown p) = true
  | .none, _ => sk_str _
  | .bool b, _ => by cases b <;> exact sk_str _
  | .int i, _ => sk_str _
  | .str x, h => sk_repr h
  | .list xs, h => by
    simp only [leavesFit] at h
    exact sk_app (sk_textFrom _ _ _ (sk_str _) (sk_shownL xs h)) (sk_str _)
  | .tuple xs, h => by
    simp only [leavesFit] at h
    exact sk_app (sk_app (sk_str _) (sk_join (sk_str _) _ (sk_shownL xs h))) (by split <;> exact sk_str _)
  | .dict kvs, h => by
    simp only [leavesFit] at h
    exact sk_app (sk_app (sk_str _) (sk_join (sk_str _) _ (sk_shownK kvs h))) (sk_str _)
theorem sk_shownL : ∀ xs : List PyData, leavesFitAll xs = true → ∀ t ∈ shownAll xs, strOk t = true
  | [], _, _, h => nomatch h
  | x :: xs, h, t, ht => by
    simp only [leavesFitAll, Bool.and_eq_true] at h
    simp only [shownAll, List.mem_cons] at ht
    rcases ht with rfl | ht
    · exact sk_shown x h.1
    · exact sk_shownL xs h.2 t ht
theorem sk_shownK : ∀ xs : List (PyData × PyData), leavesFitKv xs = true → ∀ t ∈ shownKv xs, strOk t = true
  | [], _, _, h => nomatch h
  | (k, x) :: xs, h, t, ht => by
    simp only [leavesFitKv, Bool.and_eq_true] at h
    simp only [shownKv, List.mem_cons] at ht
    rcases ht with rfl | ht
    · exact sk_app (sk_app (sk_shown k h.1.1) (sk_str _)) (sk_shown x h.1.2)
    · exact sk_shownK xs h.2 t ht
end
end Dx

set_option Elab.async false
set_option linter.all false
set_option maxRecDepth 100000
set_option maxHeartbeats 4000000
/-! the data layer: texts of small data, comprehensions and loops by plain functions -/
namespace Dx
open PySem PySem.Spec PyProof.Rows L2 Gd
def okK : Key → Bool
  | .inl i => decide (i.natAbs < 10 ^ 30)
  | .inr x => decide (x.length ≤ 100) && PyData.strOk x
mutual
def okD : D → Bool
  | .non => true
  | .bl _ => true
  | .int i => decide (i.natAbs < 10 ^ 30)
  | .str x => decide (x.length ≤ 100) && PyData.strOk x
  | .tup xs => okDs xs
  | .lst xs => okDs xs
  | .dic ks => okKs ks
  | _ => false
def okDs : List D → Bool
  | [] => true
  | d :: r => okD d && okDs r
def okKs : List (Key × D) → Bool
  | [] => true
  | (k, d) :: r => okK k && okD d && okKs r
end
mutual
def szD : D → Nat
  | .tup xs => szDs xs + 1
  | .lst xs => szDs xs + 1
  | .dic ks => szKs ks + 1
  | _ => 1
def szDs : List D → Nat
  | [] => 0
  | d :: r => szD d + szDs r
def szKs : List (Key × D) → Nat
  | [] => 0
  | (k, d) :: r => 1 + szD d + szKs r
end
mutual
def dpD : D → Nat
  | .tup xs => dpDs xs + 1
  | .lst xs => dpDs xs + 1
  | .dic ks => dpKs ks + 1
  | _ => 0
def dpDs : List D → Nat
  | [] => 0
  | d :: r => max (dpD d) (dpDs r)
def dpKs : List (Key × D) → Nat
  | [] => 0
  | (_, d) :: r => max (dpD d) (dpKs r)
end
abbrev FineP (p : PyData) (n d : Nat) : Prop := leafOk p = true ∧ PyData.leavesFit p = true ∧ p.weight + 1 ≤ 102 * n ∧ p.depth ≤ d
theorem fp_int {i : Int} (h : i.natAbs < 10 ^ 30) : FineP (.int i) 1 0 := by
  refine ⟨by simpa [leafOk] using h, ?_, ?_, Nat.le_refl _⟩
  · simp only [PyData.leavesFit, decide_eq_true_eq]
    exact Nat.lt_of_lt_of_le h (Nat.pow_le_pow_right (by decide) (by decide))
  · simp only [PyData.weight]
    split
    · omega
    · rename_i z
      have : i.natAbs.log2 < 100 := (Nat.log2_lt (by simpa using z)).mpr (Nat.lt_of_lt_of_le h (by decide))
      omega
theorem fp_str {x : Str} (h : x.length ≤ 100) (o : PyData.strOk x = true) : FineP (.str x) 1 0 := by
  refine ⟨?_, by simpa [PyData.leavesFit] using o, ?_, Nat.le_refl _⟩
  · simp only [leafOk, List.all_eq_true, decide_eq_true_eq]
    intro c hc
    exact Nat.lt_trans (sk_mem.mp o c hc) (by decide)
  · simp only [PyData.weight]
    have : x.cps.size ≤ 100 := h
    omega
theorem kD_fine {k : Key} (h : okK k = true) : FineP (kD k) 1 0 := by
  cases k with
  | inl i => exact fp_int (by simpa [okK] using h)
  | inr x =>
    have h : x.length ≤ 100 ∧ PyData.strOk x = true := by simpa [okK] using h
    exact fp_str h.1 h.2
mutual
theorem okD_fine : ∀ d : D, okD d = true → ∃ p, pyD d = some p ∧ FineP p (szD d) (dpD d)
  | .non, _ => ⟨_, rfl, rfl, rfl, by decide, Nat.le_refl _⟩
  | .bl b, _ => ⟨_, rfl, rfl, rfl, by simp [PyData.weight, szD], Nat.le_refl _⟩
  | .int i, h => ⟨_, rfl, fp_int (by simpa [okD] using h)⟩
  | .str x, h => by
    have h : x.length ≤ 100 ∧ PyData.strOk x = true := by simpa [okD] using h
    exact ⟨_, rfl, fp_str h.1 h.2⟩
  | .tup xs, h => by
    obtain ⟨l, e, a, b, c, d⟩ := okDs_fine xs (by simpa [okD] using h)
    refine ⟨.tuple l, by simp [pyD, e], by simpa [leafOk] using a, by simpa [PyData.leavesFit] using b, ?_, ?_⟩
    · simp only [PyData.weight, szD]; omega
    · simp only [PyData.depth, dpD]; omega
  | .lst xs, h => by
    obtain ⟨l, e, a, b, c, d⟩ := okDs_fine xs (by simpa [okD] using h)
    refine ⟨.list l, by simp [pyD, e], by simpa [leafOk] using a, by simpa [PyData.leavesFit] using b, ?_, ?_⟩
    · simp only [PyData.weight, szD]; omega
    · simp only [PyData.depth, dpD]; omega
  | .dic ks, h => by
    obtain ⟨l, e, a, b, c, d⟩ := okKs_fine ks (by simpa [okD] using h)
    refine ⟨.dict l, by simp [pyD, e], by simpa [leafOk] using a, by simpa [PyData.leavesFit] using b, ?_, ?_⟩
    · simp only [PyData.weight, szD]; omega
    · simp only [PyData.depth, dpD]; omega
  | .obj _ _, h => by simp [okD] at h
  | .ty _, h => by simp [okD] at h
  | .cls _, h => by simp [okD] at h
  | .scr _, h => by simp [okD] at h
theorem okDs_fine : ∀ ds : List D, okDs ds = true → ∃ l, pyDs ds = some l ∧ leafAll l = true ∧ PyData.leavesFitAll l = true ∧ PyData.weightAll l ≤ 102 * szDs ds ∧ PyData.depthAll l ≤ dpDs ds
  | [], _ => ⟨[], rfl, rfl, rfl, Nat.le_refl _, Nat.le_refl _⟩
  | d :: r, h => by
    simp only [okDs, Bool.and_eq_true] at h
    obtain ⟨p, e, a, b, c, d'⟩ := okD_fine d h.1
    obtain ⟨l, e2, a2, b2, c2, d2⟩ := okDs_fine r h.2
    refine ⟨p :: l, by simp [pyDs, e, e2], by simp [leafAll, a, a2], by simp [PyData.leavesFitAll, b, b2], ?_, ?_⟩
    · simp only [PyData.weightAll, szDs]; omega
    · simp only [PyData.depthAll, dpDs]; omega
theorem okKs_fine : ∀ ks : List (Key × D), okKs ks = true → ∃ l, pyKs ks = some l ∧ leafKv l = true ∧ PyData.leavesFitKv l = true ∧ PyData.weightKv l ≤ 102 * szKs ks ∧ PyData.depthKv l ≤ dpKs ks
  | [], _ => ⟨[], rfl, rfl, rfl, Nat.le_refl _, Nat.le_refl _⟩
  | (k, d) :: r, h => by
    simp only [okKs, Bool.and_eq_true] at h
    obtain ⟨a0, b0, c0, d0⟩ := kD_fine h.1.1
    obtain ⟨p, e, a, b, c, d'⟩ := okD_fine d h.1.2
    obtain ⟨l, e2, a2, b2, c2, d2⟩ := okKs_fine r h.2
    refine ⟨(kD k, p) :: l, by simp [pyKs, e, e2], by simp [leafKv, a, a2, a0], by simp [PyData.leavesFitKv, b, b2, b0], ?_, ?_⟩
    · simp only [PyData.weightKv, szKs]; omega
    · simp only [PyData.depthKv, dpKs]; omega
end
/-- repr of small data without lists -/
theorem fRepr_ok {d : D} (h : okD d = true) (n : noL d = true) (s : szD d ≤ 200) (p : dpD d ≤ 60) : ∃ x, fRepr [d] = some (.str x) := by
  obtain ⟨q, e, a, b, c, d'⟩ := okD_fine d h
  refine ⟨q.shown, ?_⟩
  unfold fRepr
  simp only [e]
  have z := PyData.shown_le 40 (by decide) q (leafOk_show q a).2
  rw [if_pos]
  refine ⟨by simp only [fineB, a, Bool.true_and, Bool.and_eq_true, decide_eq_true_eq]; omega, .inr n, ?_, sk_shown q b⟩
  show _ ≤ 1000000
  omega

/-! ### comprehensions -/
theorem lcL_map {t : GV} {c : BV} {e : EV} {vs : List Nat} {ρ : Ev} {f : D → D} : ∀ ds : List D,
    (∀ d ∈ ds, ∃ ρ1 ρ2 ρ3, t d ρ = .ok () ρ1 ∧ c ρ1 = .ok true ρ2 ∧ e ρ2 = .ok (f d) ρ3 ∧ wipeE ρ3 vs = ρ) → lcL t c e vs ds ρ = .ok (ds.map f) ρ
  | [], _ => rfl
  | d :: r, h => by
    obtain ⟨ρ1, ρ2, ρ3, h1, h2, h3, h4⟩ := h d List.mem_cons_self
    simp only [lcL, h1, h2, bind_ok, h3, h4, lcL_map r fun x hx => h x (List.mem_cons_of_mem _ hx), List.map_cons]
theorem lcL_fm {t : GV} {c : BV} {e : EV} {vs : List Nat} {ρ : Ev} {p : D → Bool} {f : D → D} : ∀ ds : List D,
    (∀ d ∈ ds, ∃ ρ1 ρ2, t d ρ = .ok () ρ1 ∧ c ρ1 = .ok (p d) ρ2 ∧ (p d = false → wipeE ρ2 vs = ρ) ∧ (p d = true → ∃ ρ3, e ρ2 = .ok (f d) ρ3 ∧ wipeE ρ3 vs = ρ)) →
    lcL t c e vs ds ρ = .ok ((ds.filter p).map f) ρ
  | [], _ => rfl
  | d :: r, h => by
    obtain ⟨ρ1, ρ2, h1, h2, h3, h4⟩ := h d List.mem_cons_self
    have ih := lcL_fm r fun x hx => h x (List.mem_cons_of_mem _ hx)
    cases hp : p d with
    | false => simp only [lcL, h1, h2, hp, bind_ok, h3 hp, ih, List.filter_cons, if_false, Bool.false_eq_true]
    | true =>
      obtain ⟨ρ3, h5, h6⟩ := h4 hp
      simp only [lcL, h1, h2, hp, bind_ok, h5, h6, ih, List.filter_cons, if_true, List.map_cons]
/-- a comprehension whose elements change the frame -/
theorem lcL_inv {t : GV} {c : BV} {e : EV} {vs : List Nat} {I : Nat → Ev → Prop} {T : D → Prop} : ∀ (ds : List D) (n : Nat) (ρ : Ev), I n ρ →
    (∀ m d ρ, d ∈ ds → I m ρ → ∃ ρ1 ρ2 y ρ3, t d ρ = .ok () ρ1 ∧ c ρ1 = .ok true ρ2 ∧ e ρ2 = .ok y ρ3 ∧ T y ∧ I (m + 1) (wipeE ρ3 vs)) →
    ∃ ys ρ', lcL t c e vs ds ρ = .ok ys ρ' ∧ ys.length = ds.length ∧ (∀ y ∈ ys, T y) ∧ I (n + ds.length) ρ'
  | [], n, ρ, i, _ => ⟨[], ρ, rfl, rfl, (fun _ h => nomatch h), i⟩
  | d :: r, n, ρ, i, h => by
    obtain ⟨ρ1, ρ2, y, ρ3, h1, h2, h3, h4, h5⟩ := h n d ρ List.mem_cons_self i
    obtain ⟨ys, ρ', e1, e2, e3, e4⟩ := lcL_inv r (n + 1) _ h5 fun m d ρ hd => h m d ρ (List.mem_cons_of_mem _ hd)
    refine ⟨y :: ys, ρ', ?_, by simp [e2], ?_, ?_⟩
    · simp only [lcL, h1, h2, bind_ok, h3, e1]
    · intro z hz
      rcases List.mem_cons.mp hz with rfl | hz
      · exact h4
      · exact e3 z hz
    · rw [List.length_cons, ← Nat.add_assoc, Nat.add_right_comm]; exact e4
theorem unB_map (f : D → Bool) : ∀ ds : List D, unB (ds.map fun d => .bl (f d)) = some (ds.map f)
  | [] => rfl
  | d :: r => by simp [unB, unB_map f r]
theorem fAll_map (f : D → Bool) (ds : List D) : fAll [.lst (ds.map fun d => .bl (f d))] = some (.bl (ds.all f)) := by
  simp only [fAll, unB_map, Option.map_some, List.all_map]; rfl
theorem fAny_map (f : D → Bool) (ds : List D) : fAny [.lst (ds.map fun d => .bl (f d))] = some (.bl (ds.any f)) := by
  simp only [fAny, unB_map, Option.map_some, List.any_map]; rfl

/-! ### loops -/
theorem forD_inv {b : D → SV} {I : Nat → Ev → Prop} : ∀ (ds : List D) (n : Nat) (ρ : Ev), I n ρ →
    (∀ m d ρ, ds[m]? = some d → I (n + m) ρ → ∃ ρ', (b d ρ = .ok .nx ρ' ∨ b d ρ = .ok .ct ρ') ∧ I (n + m + 1) ρ') → ∃ ρ', forD b ds ρ = .ok .nx ρ' ∧ I (n + ds.length) ρ'
  | [], n, ρ, i, _ => ⟨ρ, rfl, i⟩
  | d :: r, n, ρ, i, h => by
    obtain ⟨ρ1, h1, h2⟩ := h 0 d ρ rfl i
    obtain ⟨ρ', e1, e2⟩ := forD_inv r (n + 1) ρ1 h2 fun m d ρ hd j => by
      have := h (m + 1) d ρ (by simpa using hd) (by rw [show n + (m + 1) = n + 1 + m by omega]; exact j)
      rw [show n + (m + 1) = n + 1 + m by omega] at this
      exact this
    refine ⟨ρ', ?_, by rw [List.length_cons, ← Nat.add_assoc, Nat.add_right_comm]; exact e2⟩
    rcases h1 with h1 | h1 <;> simp only [forD, h1, e1]
/-- a loop that looks for something: it goes on while p, ends with r at the first that fails -/
theorem forD_find {b : D → SV} {p : D → Bool} {I : Ev → Prop} {v : D} : ∀ (ds : List D) (ρ : Ev), I ρ →
    (∀ d ρ, d ∈ ds → I ρ → ∃ ρ', I ρ' ∧ b d ρ = if p d = true then .ok .nx ρ' else .ok (.rt v) ρ') → ∃ ρ', I ρ' ∧ forD b ds ρ = if ds.all p = true then .ok .nx ρ' else .ok (.rt v) ρ'
  | [], ρ, i, _ => ⟨ρ, i, rfl⟩
  | d :: r, ρ, i, h => by
    obtain ⟨ρ1, i1, h1⟩ := h d ρ List.mem_cons_self i
    cases hp : p d with
    | false =>
      rw [hp] at h1
      exact ⟨ρ1, i1, by simp [forD, h1, hp]⟩
    | true =>
      rw [hp] at h1
      obtain ⟨ρ', i', e⟩ := forD_find r ρ1 i1 fun d ρ hd => h d ρ (List.mem_cons_of_mem _ hd)
      refine ⟨ρ', i', ?_⟩
      simp only [if_true] at h1
      simp only [forD, h1, e, List.all_cons, hp, Bool.true_and]
end Dx

set_option Elab.async false
set_option linter.all false
set_option maxRecDepth 100000
set_option maxHeartbeats 4000000
/-! dicts of named values -/
namespace Dx
open PySem PySem.Spec PyProof.Rows L2 Gd
abbrev NV := Str × D
def nvD (q : NV) : D := .tup [.str q.1, q.2]
theorem pairsOf_nv : ∀ qs : List NV, pairsOf (qs.map nvD) = some (inrD qs)
  | [] => rfl
  | q :: r => by
    simp only [List.map_cons, pairsOf, nvD, pairOf, dKey, Option.map_some, Option.bind_some]
    rw [pairsOf_nv r]
    rfl
theorem putKD_new {ks : List (Key × D)} {k : Key} {d : D} (h : ∀ p ∈ ks, p.1 ≠ k) : putKD ks k d = ks ++ [(k, d)] := by
  unfold putKD
  rw [if_neg]
  simp only [List.any_eq_true, decide_eq_true_eq, not_exists, not_and]
  exact fun p hp => h p hp
theorem merge_nv : ∀ (qs : List NV) (ks : List (Key × D)), (qs.map (·.1)).Nodup → (∀ p ∈ ks, ∀ q ∈ qs, p.1 ≠ .inr q.1) → mergeD ks (inrD qs) = ks ++ inrD qs
  | [], ks, _, _ => by simp [mergeD, inrD]
  | q :: r, ks, hn, hd => by
    simp only [List.map_cons, List.nodup_cons] at hn
    have e : mergeD ks (inrD (q :: r)) = mergeD (putKD ks (.inr q.1) q.2) (inrD r) := rfl
    rw [e, putKD_new fun p hp => hd p hp q List.mem_cons_self, merge_nv r _ hn.2 ?_]
    · simp [inrD]
    · intro p hp z hz
      rcases List.mem_append.mp hp with hp | hp
      · exact hd p hp z (List.mem_cons_of_mem _ hz)
      · simp only [List.mem_singleton] at hp
        subst hp
        intro c
        have c' : q.1 = z.1 := Sum.inr.inj c
        exact hn.1 (c' ▸ List.mem_map_of_mem hz)
theorem lDict_nv {qs : List NV} (hn : (qs.map (·.1)).Nodup) : lDict [.lst (qs.map nvD)] = some (inrD qs) := by
  show (pairsOf (qs.map nvD)).map (mergeD []) = _
  rw [pairsOf_nv, Option.map_some, merge_nv qs [] hn fun _ h => nomatch h]
  rfl
theorem lk_nv {x : Str} {d : D} : ∀ {qs : List NV}, (qs.map (·.1)).Nodup → (x, d) ∈ qs → lkD (inrD qs) (.inr x) = some d
  | q :: r, hn, h => by
    simp only [List.map_cons, List.nodup_cons] at hn
    show ((List.find? _ ((Sum.inr q.1, q.2) :: inrD r)).map _) = _
    rw [List.find?_cons]
    rcases List.mem_cons.mp h with rfl | h
    · simp
    · have : q.1 ≠ x := fun c => hn.1 (c ▸ List.mem_map_of_mem h)
      have : decide ((Sum.inr q.1 : Key) = Sum.inr x) = false := decide_eq_false fun c => this (Sum.inr.inj c)
      simp only [this]
      exact lk_nv hn.2 h
theorem lk_nv_none {x : Str} : ∀ {qs : List NV}, (∀ q ∈ qs, q.1 ≠ x) → lkD (inrD qs) (.inr x) = none
  | [], _ => rfl
  | q :: r, h => by
    show ((List.find? _ ((Sum.inr q.1, q.2) :: inrD r)).map _) = _
    rw [List.find?_cons]
    have : decide ((Sum.inr q.1 : Key) = Sum.inr x) = false := decide_eq_false fun c => h q List.mem_cons_self (Sum.inr.inj c)
    simp only [this]
    exact lk_nv_none fun q hq => h q (List.mem_cons_of_mem _ hq)
/-- what a dict of some of these pairs tells -/
theorem lk_nv_of {x : Str} {qs : List NV} (hn : (qs.map (·.1)).Nodup) : (lkD (inrD qs) (.inr x) = none ∧ ∀ q ∈ qs, q.1 ≠ x) ∨ ∃ d, (x, d) ∈ qs ∧ lkD (inrD qs) (.inr x) = some d := by
  by_cases h : ∃ q ∈ qs, q.1 = x
  · obtain ⟨⟨y, d⟩, hq, rfl⟩ := h
    exact .inr ⟨d, hq, lk_nv hn hq⟩
  · have h' : ∀ q ∈ qs, q.1 ≠ x := fun q hq c => h ⟨q, hq, c⟩
    exact .inl ⟨lk_nv_none h', h'⟩
def unN : D → NV
  | .tup [.str x, d] => (x, d)
  | _ => ("", .non)
theorem perm_nv {ys : List D} {l : List NV} (p : ys.Perm (l.map nvD)) : ∃ m : List NV, ys = m.map nvD ∧ m.Perm l := by
  refine ⟨ys.map unN, ?_, ?_⟩
  · rw [List.map_map]
    have : ∀ y ∈ ys, (nvD ∘ unN) y = y := fun y hy => by
      have := p.mem_iff.mp hy
      simp only [List.mem_map] at this
      obtain ⟨x, _, rfl⟩ := this
      rfl
    rw [List.map_congr_left (g := id) this, List.map_id]
  · have := p.map unN
    rw [List.map_map] at this
    have e : unN ∘ nvD = id := by funext q; rfl
    rwa [e, List.map_id] at this
theorem okKs_nv : ∀ {qs : List NV}, (∀ q ∈ qs, okK (.inr q.1) = true ∧ okD q.2 = true) → okKs (inrD qs) = true
  | [], _ => rfl
  | q :: r, h => by
    have := okKs_nv (qs := r) fun z hz => h z (List.mem_cons_of_mem _ hz)
    obtain ⟨a, b⟩ := h q List.mem_cons_self
    show (okK (.inr q.1) && okD q.2 && okKs (inrD r)) = true
    rw [a, b, this]; rfl
theorem noLk_nv : ∀ {qs : List NV}, (∀ q ∈ qs, noL q.2 = true) → noLk (inrD qs) = true
  | [], _ => rfl
  | q :: r, h => by
    show (noL q.2 && noLk (inrD r)) = true
    rw [h q List.mem_cons_self, noLk_nv fun z hz => h z (List.mem_cons_of_mem _ hz)]; rfl
theorem szKs_nv : ∀ {qs : List NV}, szKs (inrD qs) = (qs.map fun q => 1 + szD q.2).sum
  | [] => rfl
  | q :: r => by
    show 1 + szD q.2 + szKs (inrD r) = _
    rw [szKs_nv]; simp
theorem dpKs_nv {n : Nat} : ∀ {qs : List NV}, (∀ q ∈ qs, dpD q.2 ≤ n) → dpKs (inrD qs) ≤ n
  | [], _ => Nat.zero_le _
  | q :: r, h => by
    show max (dpD q.2) (dpKs (inrD r)) ≤ n
    have := dpKs_nv (qs := r) fun z hz => h z (List.mem_cons_of_mem _ hz)
    have := h q List.mem_cons_self
    omega
theorem keysOk_nv {qs : List NV} (h : ∀ q ∈ qs, okK (.inr q.1) = true) : (inrD qs).all (fun p => keyOk p.1) = true := by
  rw [List.all_eq_true]
  intro p hp
  simp only [inrD, List.mem_map] at hp
  obtain ⟨q, hq, rfl⟩ := hp
  have := h q hq
  simp only [okK, Bool.and_eq_true, decide_eq_true_eq] at this
  simp only [keyOk, Bool.and_eq_true, decide_eq_true_eq]
  exact ⟨Nat.le_trans this.1 (by decide), this.2⟩
end Dx

set_option Elab.async false
set_option linter.all false
set_option maxRecDepth 100000
set_option maxHeartbeats 4000000
/-! the data layer: the law's own call, names by facts -/
namespace Dx
open PySem PySem.Spec PyProof.Rows L2 Gd
section
variable {pr : Program} {wo : World} {Kf : PySem.W.Frag} {glo blt : Str → Option Value}
theorem law_x {b : Bool} {k : Nat} {fa a : Addr} {prom : SpK} {t : Shared} {vs : List Value} {ns : List Int}
    (kin : Kf.In t.heap) (hns : t.heap.Ns mainGlobals glo) (hb : t.heap.Ns builtinsNs blt) (hbb : ∀ y : Str, y ≠ "__name__" → blt y = bootBuiltins y) (nolim : t.heap.NoLimit) (hgn : t.gens = #[])
    (ha : t.heap.get? a = some { cls := .type "list", data := .seq vs.toArray }) (hi : IntsAre vs ns) (hl : ns.length ≤ sizeLine) (hr : Rb b k callerA)
    (F : ∀ bh : Heap, FnG pr wo Kf glo bh b k fa [] prom)
    (hsp : ∀ G : Hp, Only G → SqL Kf G a (ns.map V.int) → prom [.ref a] [] G (fun v _ => v = .bl true) fun _ _ _ => False) :
    codeAny (model pr wo) callerA (.call (.ref fa) ⟨[.ref a], []⟩) (fun r s' => r = .ok (.ret (.bool true)) ∧ OldK t.heap s'.heap ∧ s'.os = t.os ∧ AllBare s'.gens) t := by
  have go : ∀ G : Hp, Only G → SqL Kf G a (ns.map V.int) → HOk pr wo G t.heap → (∀ b, G b ≠ none → b = a) → (G a ≠ none → Kf.lookup a = none) →
      codeAny (model pr wo) callerA (.call (.ref fa) ⟨[.ref a], []⟩) (fun r s' => r = .ok (.ret (.bool true)) ∧ OldK t.heap s'.heap ∧ s'.os = t.os ∧ AllBare s'.gens) t := by
    intro G only sq hok onlyA notK
    have un : ∀ b, b ≠ a → G b = none := fun b hb => Classical.byContradiction fun z => hb (onlyA b z)
    have dictNo : ∀ {b : Addr} {o : Obj} {es : Array DictEntry} {ep : Nat}, t.heap.get? b = some o → o.data = .dict es ep → G b = none := by
      intro b o es ep e d
      refine un b (fun z => ?_)
      subst z
      rw [ha] at e
      cases e
      exact nomatch (show Data.seq vs.toArray _ = Data.dict es ep from d)
    have hid : ∀ {b : Addr} {o : Obj}, t.heap.get? b = some o → G b = none → (hidT t.heap G).get? b = some o := hidT_get
    have nsH : ∀ {b : Addr} {m : Str → Option Value}, t.heap.Ns b m → (hidT t.heap G).Ns b m := by
      rintro b m ⟨o, es, ep, e, d, r⟩
      exact ⟨o, es, ep, hid e (dictNo e d), d, r⟩
    have kinH : Kf.In (hidT t.heap G) := by
      intro b o e
      refine hid (kin b o e) ?_
      cases q : G b with
      | none => rfl
      | some u =>
        have hne : G b ≠ none := by rw [q]; exact fun z => nomatch z
        have hba := onlyA b hne
        subst hba
        rw [notK hne] at e
        cases e
    obtain ⟨mc, l1, l2⟩ := nolim
    have md : Mod Kf glo (hidT t.heap G) := ⟨kinH, nsH hns, ⟨blt, nsH hb, hbb⟩, ⟨mc, nsH l1, l2⟩⟩
    have nil : ∀ b : Addr, b ∈ ([] : List Addr) → False := fun b z => nomatch z
    have e0 : Env0 pr wo Kf glo (hidT t.heap G) callerA [] t G :=
      ⟨rfl, md, fun b o e => of_hidT e, Nat.le_of_eq (hidT_size _ _), True.intro, fun b hb => (nil b hb).elim, hok, .of_eq hgn⟩
    refine codeAny_mono (F _ callerA [] t G [.ref a] [] [.ref a] [] _ _ hr e0 (.cons rfl .nil) .nil rfl (hsp G only sq)) (fun r s' h => ?_)
    match r, h with
    | .error _, h =>
      obtain ⟨_, _, _, _, _, _, _, _, _, _, _, _, z⟩ := h
      exact z.elim
    | .ok .next, h => exact (show False from h).elim
    | .ok .brk, h => exact (show False from h).elim
    | .ok .cont, h => exact (show False from h).elim
    | .ok (.ret u), h =>
      obtain ⟨v, G', os, bare, ch, hok', rv, q⟩ := h
      cases (show v = V.bl true from q)
      cases (show u = Value.bool true from rv)
      refine ⟨rfl, OldK.of_keep (fun b o e => ?_), os, bare⟩
      rcases only b with z | ⟨ob, xs, z⟩
      · exact ch.keep b o e z (fun m => nil b m) (fun m => nil b m)
      · obtain ⟨e1, _⟩ := hok b _ z
        obtain ⟨e2, _⟩ := hok' b _ (ch.frzs b ob _ z)
        rw [e1] at e
        cases e
        exact e2
  have rv := vals_ints hi
  cases hk : Kf.lookup a with
  | some o =>
    have e := kin a o hk
    rw [ha] at e
    cases e
    refine go (fun _ => none) (fun _ => Or.inl rfl) (Or.inr ⟨_, vs.toArray, _, hk, rfl, rfl, rfl, ?_, ?_⟩) (fun b u z => nomatch z) (fun b z => (z rfl).elim) (fun z => (z rfl).elim)
    · rw [List.size_toArray, hi.length]; exact hl
    · simpa using rv
  | none =>
    have at_a : upd (fun _ => none) a (.frz { cls := .type "list", data := .seq vs.toArray } (.lst (ns.map V.int))) a = some (.frz { cls := .type "list", data := .seq vs.toArray } (.lst (ns.map V.int))) := upd_same
    refine go (upd (fun _ => none) a (.frz { cls := .type "list", data := .seq vs.toArray } (.lst (ns.map V.int)))) (fun b => ?_) (Or.inl (Or.inr ⟨_, at_a⟩)) (fun b u z => ?_) (fun b z => ?_) (fun _ => hk)
    · by_cases hba : b = a
      · subst hba; exact Or.inr ⟨_, _, at_a⟩
      · exact Or.inl (upd_ne hba)
    · by_cases hba : b = a
      · subst hba
        rw [at_a] at z
        cases z
        exact ⟨ha, by rw [List.length_map]; exact hl, vs, _, rv, ha⟩
      · rw [upd_ne hba] at z
        cases z
    · by_cases hba : b = a
      · exact hba
      · exact (z (upd_ne hba)).elim
end

/-- a law's end -/
theorem walk_x {l : PySem.W.OpenLaw} {n k : Nat} {q : Program} {loose : List Str} {XP : (Str → Option Value) → Heap → Prop} {YP : World → Heap → Prop} {d : DefRec} {m : Fn}
    (hn : l.most = some n) (hn2 : n ≤ sizeLine) (hdf : d.params.defaults = []) (hr : Rb b k callerA)
    (hm : ∀ ns : List Int, ns.length ≤ n → m [] [.scr ns] = .ok (.bl true) [])
    (F : ∀ (w : World) (mg : Str → Option Value) (fa : Addr) (h : Heap), YP w h → h.Ns mainGlobals mg → mg d.name = some (.ref fa) →
      ∃ K : PySem.W.Frag, K.In h ∧ ∀ base : Heap, FnG l.prog w K mg base b k fa [] (fun vs _ => spF ⟨K, mg⟩ 0 1 m vs)) :
    PySem.W.WalkO q loose XP YP l.row.toRowW d [] (fun f vs => PySem.call f vs) := by
  refine Att.attach_call hn hdf (fun w s₀ s₁ mg mb fa o pm cd doc a vs ns G Y ho hd hcd hmg hobj hints hlen hgens => ?_)
  obtain ⟨K, KX, hF⟩ := F w mg fa _ Y G.T.g hmg
  refine law_x KX G.T.g G.T.b G.T.builtins G.T.nolimit hgens hobj hints (Nat.le_trans hlen hn2) hr hF fun H hO hS => ?_
  refine ⟨rfl, H, [], [], [.ref a], [.scr ns], rfl, rfl, .nil, same_rfl, .nil, .cons (.scr hS) .nil, ?_⟩
  rw [hm ns hlen]
  intro v G' H' _ _ _ rv
  cases rv
  rfl

/-! ### names by facts -/
theorem fun_of {K : PySem.W.Frag} {x q : Str} {st : Stmt} {f : Addr} {fd : FuncData} (F : FunD K x q (defArgs st) (defBody st) (defScope st) [] [] f fd) : Fun K x q st f fd := by
  obtain ⟨oc, od, dV, kV, doc, pm, an, cdv, ct, osl, e, lk, hcd, hD, _⟩ := F.ex
  rcases hD with ⟨_, rfl⟩ | ⟨z, _⟩
  · exact ⟨⟨oc, od, kV, doc, pm, an, cdv, ct, osl, e, lk, hcd⟩, F.kp⟩
  · exact absurd rfl z
section
variable {P : Program} {w : World} {K : PySem.W.Frag} {mg : Str → Option Value} {base h : Heap} {x q : Str} {st : Stmt} {f : Addr} {fd : FuncData}
theorem calx_of {ps : List Str} {b : Bool} {k nb : Nat} {m : Fn} (F : FunD K x q (defArgs st) (defBody st) (defScope st) [] [] f fd) (g : mg x = some (.ref f))
    (ok : Fun K x q st f fd → FnG P w K mg base b k f [] (fun vs _ => spF ⟨K, mg⟩ nb ps.length m vs)) (hl : ∀ cs ds, m cs ds ≠ .no → cs.length + ds.length = ps.length) : CalX P w K mg base x b k nb ps m := ⟨f, ok (fun_of F), g, F.kp, hl⟩
theorem calk_of {ks : List Str} {b : Bool} {k : Nat} {m : FnK} (g : mg x = some (.ref f)) (kp : PySem.W.keepIn K (.ref f) = true) (ok : FnG P w K mg base b k f ks (spK ⟨K, mg⟩ m)) : CalK P w K mg base x b k ks m := ⟨f, ok, g, kp⟩
theorem kd_int (X : K.In h) (G : h.Ns mainGlobals mg) {i : Int} (c : (He.Fa.int x i).ok K = true) : Kd ⟨K, mg⟩ x (.int i) := by
  obtain ⟨t, e⟩ := He.int_ok X G c
  exact ⟨.int i, _, e, ⟨t, rfl⟩, fun _ => .int i⟩
theorem kd_str (X : K.In h) (G : h.Ns mainGlobals mg) {z : Str} (c : (He.Fa.str x z).ok K = true) (n : z.length ≤ big) (o : PyData.strOk z = true) : Kd ⟨K, mg⟩ x (.str z) := by
  obtain ⟨t, e⟩ := He.str_ok X G c
  exact ⟨.str z, _, e, ⟨t, rfl⟩, fun _ => .str z n o⟩
theorem kd_tup {dv : List He.Dv} {ds : List D} (g : mg x = some (.ref (He.ga K x))) (t : He.tupB K x dv = true) (n : ds.length ≤ big) (r : ∀ G, RpL ⟨K, mg⟩ G (dv.map (He.Dv.v K)) ds) : Kd ⟨K, mg⟩ x (.tup ds) :=
  ⟨.ref _, _, g, rfl, fun G => .tup (He.tupB_ok t G) n (r G)⟩
theorem mkx_of (g : mg x = some (.ref (He.ga K x))) (c : (He.Fa.exc x).ok K = true) : MkX K mg x := by
  obtain ⟨a, b, d, e⟩ := He.exc_ok c
  exact ⟨_, g, a, b, d, e⟩
end
end Dx

set_option Elab.async false
set_option linter.all false
set_option maxRecDepth 100000
set_option maxHeartbeats 4000000
/-! the data layer: instances -/
namespace Dx
open PySem PySem.Spec PyProof.Rows L2 Gd
/-! ### fields -/
/-- instances of the class c have the plain field x -/
def FldD (g : Gm) (c x : Str) : Prop := ∃ C, g.mg c = some (.ref C) ∧ Cls g.K C ∧ NoAttr g.K C x
theorem lkF_rp {g : Gm} {G : Hp} {x : Str} {d : D} : ∀ {fv : List (Str × V)} {fs : List (Str × D)}, fv.map (·.1) = fs.map (·.1) → RpL g G (fv.map (·.2)) (fs.map (·.2)) → fs.lookup x = some d → ∃ v, fv.lookup x = some v ∧ Rp g G v d
  | [], [], _, _, h => by cases h
  | [], _ :: _, e, _, _ => by cases e
  | _ :: _, [], e, _, _ => by cases e
  | (a, v) :: r, (b, d') :: s, e, rr, h => by
    simp only [List.map_cons, List.cons.injEq] at e
    obtain ⟨e1, e2⟩ := e
    subst e1
    simp only [List.map_cons] at rr
    cases rr with
    | cons r1 r2 =>
      cases hx : x == a with
      | true =>
        rw [List.lookup_cons, hx] at h
        cases h
        exact ⟨v, by rw [List.lookup_cons, hx], r1⟩
      | false =>
        rw [List.lookup_cons, hx] at h
        obtain ⟨w, k1, k2⟩ := lkF_rp e2 r2 h
        exact ⟨w, by rw [List.lookup_cons, hx]; exact k1, k2⟩
@[simp] def eFld (cs : List Str) (x : Str) (ev : EV) : EV := fun ρ => (ev ρ).bind fun d ρ1 => match d with
  | .obj c fs => if c ∈ cs then Re.opt ρ1 (fs.lookup x) else .no
  | _ => .no
section
variable {X : Cx} {f : Fm} {W : WX} {cs : List Str} {x : Str} {e : Expr} {ev : EV} {pos : Pos}
theorem px_fld (hf : ∀ c ∈ cs, FldD f.g c x) (he : PX X f W e ev) (hK : X.K = f.g.K := by rfl) (hb : attributeBase e x X.env (eval e X.env) = eval e X.env := by rfl) : PX X f W (.Attribute e x pos) (eFld cs x ev) :=
  PE.imp (pe_fld he hb) fun σ H Q ⟨G, ρ, fi, q⟩ => ⟨G, ρ, fi, PostX.bind q fun d ρ1 G1 H1 s1 fi1 q1 v rv => by
    cases rv <;> first | exact q1.elim | skip
    rename_i a C dx fv c fs ea od mm ek rr
    simp only at q1
    split at q1
    · rename_i hc
      cases hl : fs.lookup x with
      | none => rw [hl] at q1; exact q1.elim
      | some d =>
        rw [hl] at q1
        obtain ⟨C', m', hC, hn⟩ := hf c hc
        rw [mm] at m'
        cases m'
        obtain ⟨v, lv, rv⟩ := lkF_rp ek rr hl
        exact ⟨a, C, dx, fv, v, rfl, fi1.gh _ _ ea, hK ▸ hC, hK ▸ hn, lv, q1 G1 H1 same_rfl fi1 v rv⟩
    · exact q1.elim⟩
/-- a field of a cell -/
@[simp] def eFldO (cs : List Str) (i : Nat) (x : Str) : EV := fun ρ => match (ρ[i]?).bind Slot.cell with
  | some (.ins c fs) => if c ∈ cs then Re.opt ρ (fs.lookup x) else .no
  | _ => .no
theorem px_fldO {i : Nat} {y : Str} {py : Pos} (hN : X.N[i]? = some y) (hf : ∀ c ∈ cs, FldD f.g c x) (vis : Vis X.env.scope y := by first | exact Or.inl rfl | exact Or.inr (Or.inl rfl) | exact Or.inr (Or.inr rfl)) (hd : (y == ("__debug__" : Str)) = false := by decide)
    (hcd : (y == ("__classdict__" : Str)) = false := by decide) (hK : X.K = f.g.K := by rfl) (hb : attributeBase (.Name y py) x X.env (eval (.Name y py) X.env) = eval (.Name y py) X.env := by rfl) : PX X f W (.Attribute (.Name y py) x pos) (eFldO cs i x) :=
  PE.imp (pe_fld (pe_var hN vis hd hcd) hb) fun σ H Q ⟨G, ρ, fi, q⟩ => by
    unfold eFldO at q
    split at q
    · rename_i c fs e0
      obtain ⟨s0, es0, ec0⟩ := Option.bind_eq_some_iff.mp e0
      obtain ⟨p0, ep0, cr⟩ := cell_at fi es0 ec0
      obtain ⟨g0, C, dx, fv, e1, e2, mm, ek, rr⟩ := cr
      split at q
      · rename_i hc
        cases hl : fs.lookup x with
        | none => rw [hl] at q; exact q.elim
        | some d =>
          rw [hl] at q
          obtain ⟨C', m', hC, hn⟩ := hf c hc
          rw [mm] at m'
          cases m'
          obtain ⟨v, lv, rv⟩ := lkF_rp ek rr hl
          exact ⟨_, ep0, p0, C, dx, fv, v, rfl, e1, hK ▸ hC, hK ▸ hn, lv, q G H same_rfl fi v rv⟩
      · exact q.elim
    · exact q.elim
/-- a field is given -/
def putFD (x : Str) (d : D) : List (Str × D) → List (Str × D)
  | [] => [(x, d)]
  | (y, e) :: r => if y = x then (y, d) :: r else (y, e) :: putFD x d r
theorem putF_rp {g : Gm} {G : Hp} {x : Str} {v : V} {d : D} (rv : Rp g G v d) : ∀ {fv : List (Str × V)} {fs : List (Str × D)}, fv.map (·.1) = fs.map (·.1) → RpL g G (fv.map (·.2)) (fs.map (·.2)) →
    (putF x v fv).map (·.1) = (putFD x d fs).map (·.1) ∧ RpL g G ((putF x v fv).map (·.2)) ((putFD x d fs).map (·.2))
  | [], [], _, _ => ⟨rfl, .cons rv .nil⟩
  | [], _ :: _, e, _ => by cases e
  | _ :: _, [], e, _ => by cases e
  | (a, w) :: r, (b, d') :: s, e, rr => by
    simp only [List.map_cons, List.cons.injEq] at e
    obtain ⟨e1, e2⟩ := e
    subst e1
    simp only [List.map_cons] at rr
    cases rr with
    | cons r1 r2 =>
      unfold putF putFD
      by_cases h : a = x
      · rw [if_pos h, if_pos h]
        exact ⟨by simp [e2], .cons rv r2⟩
      · rw [if_neg h, if_neg h]
        obtain ⟨k1, k2⟩ := putF_rp rv e2 r2
        exact ⟨by simp [k1], .cons r1 k2⟩
@[simp] def sFldO (cs : List Str) (i : Nat) (x : Str) (ev : EV) : SV := fun ρ => (ev ρ).bind fun d ρ1 => withC i (fun c => match c with
  | .ins cn fs => if cn ∈ cs ∧ fs.length < 1000 then some (Fl.nx, .ins cn (putFD x d fs)) else none
  | _ => none) ρ1
theorem pxs_fldO {i : Nat} {y : Str} {py p' : Pos} (hN : X.N[i]? = some y) (hf : ∀ c ∈ cs, FldD f.g c x) (he : PX X f W e ev) (vis : Vis X.env.scope y := by first | exact Or.inl rfl | exact Or.inr (Or.inl rfl) | exact Or.inr (Or.inr rfl)) (hd : (y == ("__debug__" : Str)) = false := by decide)
    (hcd : (y == ("__classdict__" : Str)) = false := by decide) (hK : X.K = f.g.K := by rfl) (hs : swapsWith e (some (.Attribute (.Name y py) x p')) pos.line X.env = pure false := by rfl) :
    PXS X f W (.Assign [.Attribute (.Name y py) x p'] e pos) (sFldO cs i x ev) :=
  PS.imp (ps_fld (pe_var hN vis hd hcd) he hs) fun Dd σ H ⟨G, ρ, fi, q⟩ => ⟨G, ρ, fi, PostS.bindX q fun d ρ1 G1 H1 s1 fi1 q1 v rv => by
    rcases withC_no (i := i) (ρ := ρ1) (k := fun c => match c with
      | .ins cn fs => if cn ∈ cs ∧ fs.length < 1000 then some (Fl.nx, .ins cn (putFD x d fs)) else none
      | _ => none) with ⟨a, ρ2, hw⟩ | hw
    · rw [hw] at q1
      obtain ⟨s, c, c', hs', hc, hk, rfl⟩ := withC_ok hw
      obtain ⟨p1, ep1, cr⟩ := cell_at fi1 hs' hc
      cases c with
      | lst ds => cases hk
      | dic _ => cases hk
      | ins cn fs =>
        simp only at hk
        split at hk
        · rename_i hb
          cases hk
          obtain ⟨g0, C, dx, fv, e1, e2, mm, ek, rr⟩ := cr
          obtain ⟨C', m', hC, hn⟩ := hf cn hb.1
          rw [mm] at m'
          cases m'
          have hl : fv.length = fs.length := by have := congrArg List.length ek; simpa using this
          obtain ⟨k1, k2⟩ := putF_rp (x := x) rv ek rr
          refine ⟨_, ep1, p1, C, dx, fv, rfl, e1, hK ▸ hC, hK ▸ hn, by rw [hl]; exact hb.2, ?_⟩
          exact q1 σ G1 _ same_rfl (fi1.upd1 hs' (slot_mut hc) ep1 ⟨g0, C, dx, _, upd_same, e2, mm, k1, k2⟩)
        · cases hk
    · rw [hw] at q1; exact q1.elim⟩
end
end Dx

set_option Elab.async false
set_option linter.all false
set_option maxRecDepth 100000
set_option maxHeartbeats 4000000
/-! the data layer: methods, properties, instances made -/
namespace Dx
open PySem PySem.Spec PyProof.Rows L2 Gd
section
variable {X : Cx} {f : Fm} {W : WX} {b : Bool} {k : Nat} {m : Str} {o e : Expr} {es : List Expr} {apos pos : Pos} {ta : TE} {t : TA} {C fa : Addr} {sp : SpK} {E : L2.St → XK}
theorem pe_methF {pl : Sem Bool} (he : PE X o ta) (c : Cls X.K C) (hm : Meth X.K C m fa) (F : FnG X.prog X.w X.K X.mg X.base b k fa [] sp) (hr : Rb b k X.A) (hx : ∀ σ, PassesAt (L2.CX X.prog X.w) X σ (E σ)) (ha : PA X (e :: es) t)
    (hst : starEach (e :: es) X.env = (false, eval e X.env) :: starEach es X.env := by rfl) (hpl : (backTo pos (starEach es X.env)).any (·.1) = false := by rfl)
    (ht : eval (.Call (.Attribute o m apos) (e :: es) [] pos) X.env = (do
      let ov ← eval o X.env
      standAt apos.atName
      let (f, first) ← holding [ov] (getMethod ov m pl)
      callWith pos f first (backTo pos (starEach (e :: es) X.env)) (backToKw pos (keywordEach [] X.env))) := by rfl) :
    PE X (.Call (.Attribute o m apos) (e :: es) [] pos) (fun σ H Q => ta σ H fun x H1 => ∃ a dx fs, x = .ref a ∧ H1 a = some (.ins C dx fs) ∧ fs.lookup m = none ∧ t σ H1 fun vs H2 => sp (x :: vs) [] H2 Q (E σ)) := by
  refine ⟨fun pins s σ H Q I h => ?_⟩
  refine PySem.W.methodCall_KW (pl := pl) (thn (he.run pins s σ H _ I h) fun u s1 ⟨x, H1, I1, rx, a, dx, fs, ex, ea, l, q⟩ => ?_) ht
  subst ex
  obtain rfl : u = Value.ref a := rx
  refine getmeth_ok I1 ea c hm l ?_
  refine PySem.W.callWith_K (first := [.ref a]) (h₀ := X.base) I.ok.mod.kin hm.kp (thn (ha.run pos pins s1 σ H1 _ I1 q) fun us s2 ⟨vs, H2, I2, r, q2⟩ => ⟨I2.kIn, ?_⟩) hst hpl
  exact run_fng (ks := []) (ws := []) (zs := []) (us := .ref a :: us) (vs := .ref a :: vs) F hr (hx σ) I2 (.cons rfl r) .nil rfl q2
theorem pe_methF0 {pl : Sem Bool} (he : PE X o ta) (c : Cls X.K C) (hm : Meth X.K C m fa) (F : FnG X.prog X.w X.K X.mg X.base b k fa [] sp) (hr : Rb b k X.A) (hx : ∀ σ, PassesAt (L2.CX X.prog X.w) X σ (E σ))
    (ht : eval (.Call (.Attribute o m apos) [] [] pos) X.env = (do
      let ov ← eval o X.env
      standAt apos.atName
      let (f, first) ← holding [ov] (getMethod ov m pl)
      callWith pos f first (backTo pos (starEach [] X.env)) (backToKw pos (keywordEach [] X.env))) := by rfl) :
    PE X (.Call (.Attribute o m apos) [] [] pos) (fun σ H Q => ta σ H fun x H1 => ∃ a dx fs, x = .ref a ∧ H1 a = some (.ins C dx fs) ∧ fs.lookup m = none ∧ sp [x] [] H1 Q (E σ)) := by
  refine ⟨fun pins s σ H Q I h => ?_⟩
  refine PySem.W.methodCall_KW (pl := pl) (thn (he.run pins s σ H _ I h) fun u s1 ⟨x, H1, I1, rx, a, dx, fs, ex, ea, l, q⟩ => ?_) ht
  subst ex
  obtain rfl : u = Value.ref a := rx
  refine getmeth_ok I1 ea c hm l ?_
  exact PySem.W.callWith_K0 (first := [.ref a]) I1.kIn hm.kp (run_fng (ks := []) (ws := []) (zs := []) (us := [.ref a]) (vs := [.ref a]) F hr (hx σ) I1 (.cons rfl .nil) .nil rfl q)
end
/-- a method of a class as a function; the instance is data -/
def CalM (P : Program) (w : World) (K : PySem.W.Frag) (mg : Str → Option Value) (base : Heap) (c m : Str) (b : Bool) (k : Nat) (prm : List Str) (mm : Fn) : Prop :=
  ∃ C fa, mg c = some (.ref C) ∧ Cls K C ∧ Meth K C m fa ∧ FnG P w K mg base b k fa [] (fun vs _ => spF ⟨K, mg⟩ 0 prm.length mm vs) ∧ ∀ cs ds, mm cs ds ≠ .no → cs.length + ds.length = prm.length
@[simp] def eMeth (c m : Str) (mm : Fn) (ev : EV) (av : AV) : EV := fun ρ => (ev ρ).bind fun d ρ1 => match d with
  | .obj c' fs => if c' = c ∧ fs.lookup m = none then (av ρ1).bind fun ds ρ2 => match mm [] (d :: ds) with
    | .ok r _ => .ok r ρ2
    | .er e _ => .er e ρ2
    | _ => .no else .no
  | _ => .no
theorem lkF_none {x : Str} : ∀ {fv : List (Str × V)} {fs : List (Str × D)}, fv.map (·.1) = fs.map (·.1) → fs.lookup x = none → fv.lookup x = none
  | [], _, _, _ => rfl
  | _ :: _, [], e, _ => by cases e
  | (a, v) :: r, (b, d') :: s, e, h => by
    simp only [List.map_cons, List.cons.injEq] at e
    obtain ⟨e1, e2⟩ := e
    subst e1
    cases hx : x == a with
    | true => rw [List.lookup_cons, hx] at h; cases h
    | false => rw [List.lookup_cons, hx] at h ⊢; exact lkF_none e2 h
theorem call_end {g : Gm} {G1 H1 : Hp} {f : Fm} {W : WX} {σ : L2.St} {ρ2 : Ev} {Q : VK} {r : FR} (hg : f.g = g) (fi : FI f G1 H1 σ ρ2)
    (q : PostX f W σ G1 (fun d G' H' => ∀ v, Rp f.g G' v d → Q v H') (match r with | .ok r _ => .ok r ρ2 | .er e _ => .er e ρ2 | _ => .no)) : PostR g [] G1 H1 Q (WE W σ) r := by
  subst hg
  have ext : ∀ {G' H' : Hp}, Grow [] G1 H1 G' H' → Same G' H' → Ext G1 H1 G' H' := fun gr sg => ⟨gr.g, fun b o e => gr.h b o (by simp) e, sg, gr.f⟩
  cases r with
  | ok d cs => exact fun v G' H' gr sg _ rp => q G' H' gr.g (fi.ext (ext gr sg)) v rp
  | er er cs => exact fun cls dd G' H' gr sg _ rp => q cls dd G' H' gr.g (fi.ext (ext gr sg)) rp
  | okc c cs => exact q.elim
  | no => exact q.elim
section
variable {X : Cx} {f : Fm} {W : WX} {b : Bool} {k : Nat} {c m : Str} {prm : List Str} {mm : Fn} {o e : Expr} {es : List Expr} {ev : EV} {av : AV} {apos pos : Pos}
theorem px_meth {pl : Sem Bool} (M : CalM X.prog X.w X.K X.mg X.base c m b k prm mm) (hr : Rb b k X.A) (ho : PX X f W o ev) (ha : PXA X f W (e :: es) av) (tk : Takes X W) (eg : f.g = ⟨X.K, X.mg⟩ := by rfl)
    (hst : starEach (e :: es) X.env = (false, eval e X.env) :: starEach es X.env := by rfl) (hpl : (backTo pos (starEach es X.env)).any (·.1) = false := by rfl)
    (ht : eval (.Call (.Attribute o m apos) (e :: es) [] pos) X.env = (do
      let ov ← eval o X.env
      standAt apos.atName
      let (f, first) ← holding [ov] (getMethod ov m pl)
      callWith pos f first (backTo pos (starEach (e :: es) X.env)) (backToKw pos (keywordEach [] X.env))) := by rfl) :
    PX X f W (.Call (.Attribute o m apos) (e :: es) [] pos) (eMeth c m mm ev av) := by
  obtain ⟨C, fa, hm, hc, hM, F, hlen⟩ := M
  refine PE.imp (pe_methF (pl := pl) ho hc hM F hr (passAt tk) ha hst hpl ht) fun σ H Q ⟨G, ρ, fi, q⟩ => ⟨G, ρ, fi, PostX.bind q fun d ρ1 G1 H1 s1 fi1 q1 v rv => ?_⟩
  cases hrv : rv <;> first | exact q1.elim | skip
  rename_i a C' dx fv c' fs ea od mg' ek rr
  simp only at q1
  split at q1
  rotate_left
  · exact q1.elim
  rename_i hcc
  obtain ⟨rfl, hl⟩ := hcc
  rw [eg] at mg'
  have eC : C' = C := by have := mg'.symm.trans hm; injection this with z; injection z
  subst eC
  refine ⟨a, dx, fv, rfl, fi1.gh _ _ ea, lkF_none ek hl, G1, ρ1, fi1, PostX.bind q1 fun ds ρ2 G2 H2 s2 fi2 q2 vs rvs => ?_⟩
  have hne : mm [] (.obj c' fs :: ds) ≠ .no := fun z => by rw [z] at q2; exact q2.elim
  have hln := hlen _ _ hne
  refine ⟨by simpa [rvs.len] using hln, G2, [], [], _, .obj c' fs :: ds, rfl, rfl, List.nodup_nil, fi2.gh, .nil, by rw [← eg]; exact .cons (rv.up s2) rvs, call_end eg fi2 q2⟩
theorem px_meth0 {pl : Sem Bool} (M : CalM X.prog X.w X.K X.mg X.base c m b k prm mm) (hr : Rb b k X.A) (ho : PX X f W o ev) (tk : Takes X W) (eg : f.g = ⟨X.K, X.mg⟩ := by rfl)
    (ht : eval (.Call (.Attribute o m apos) [] [] pos) X.env = (do
      let ov ← eval o X.env
      standAt apos.atName
      let (f, first) ← holding [ov] (getMethod ov m pl)
      callWith pos f first (backTo pos (starEach [] X.env)) (backToKw pos (keywordEach [] X.env))) := by rfl) :
    PX X f W (.Call (.Attribute o m apos) [] [] pos) (eMeth c m mm ev aNil) := by
  obtain ⟨C, fa, hm, hc, hM, F, hlen⟩ := M
  refine PE.imp (pe_methF0 (pl := pl) ho hc hM F hr (passAt tk) ht) fun σ H Q ⟨G, ρ, fi, q⟩ => ⟨G, ρ, fi, PostX.bind q fun d ρ1 G1 H1 s1 fi1 q1 v rv => ?_⟩
  cases hrv : rv <;> first | exact q1.elim | skip
  rename_i a C' dx fv c' fs ea od mg' ek rr
  simp only at q1
  split at q1
  rotate_left
  · exact q1.elim
  rename_i hcc
  obtain ⟨rfl, hl⟩ := hcc
  rw [eg] at mg'
  have eC : C' = C := by have := mg'.symm.trans hm; injection this with z; injection z
  subst eC
  simp only [aNil, Re.bind] at q1
  have hne : mm [] [.obj c' fs] ≠ .no := fun z => by rw [z] at q1; exact q1.elim
  have hln := hlen _ _ hne
  exact ⟨a, dx, fv, rfl, fi1.gh _ _ ea, lkF_none ek hl, by simpa using hln, G1, [], [], _, [.obj c' fs], rfl, rfl, List.nodup_nil, fi1.gh, .nil, by rw [← eg]; exact .cons rv .nil, call_end eg fi1 q1⟩
end
end Dx

set_option Elab.async false
set_option linter.all false
set_option maxRecDepth 100000
set_option maxHeartbeats 4000000
/-! the data layer: properties, instances made -/
namespace Dx
open PySem PySem.Spec PyProof.Rows L2 Gd
section
variable {X : Cx} {b : Bool} {k : Nat} {C p g a dx : Addr} {fs : List (Str × V)} {x : Str} {sp : SpK} {e : Expr} {pos : Pos} {ta : TE}
theorem getprop_F {pins : List (Addr × Obj)} {σ : L2.St} {H : Hp} {s : Shared} {Q : VK} {b' : Bool} {E' : Value → Shared → Prop} (I : Inv X pins σ H s) (ea : H a = some (.ins C dx fs)) (c : Cls X.K C) (hp : PropOf X.K C x p g)
    (F : FnG X.prog X.w X.K X.mg X.base false k g [] sp) (hr : Rb b (k + 1) X.A) (h : sp [.ref a] [] H Q (fun _ _ _ => False)) :
    wpAny (model X.prog X.w) X.A (getAttr (.ref a) x b') (EP X pins σ Q) E' s := by
  obtain ⟨mA, O, _, _, _, _⟩ := ins_get I.hok ea
  obtain ⟨od, J, _⟩ := O.look
  obtain ⟨rest, hrec⟩ := hp.rec_
  have I1 := I.tok (s.toks + 1)
  have hc : (PySem.W.clsIn X.K C).isSome = true := by
    obtain ⟨cd, hc, _⟩ := PySem.W.any_some c.hd
    rw [hc]
    rfl
  refine PySem.W.get_bind I.kIn J (PySem.W.plainGet_of (c.get x)).1 (PySem.W.findObj_data hc hp.at_ hp.get hp.tak) (PySem.W.plainGet_of (c.get x)).2 (wpAny_call (PySem.W.prop_get (s := { s with toks := s.toks + 1 }) I.kIn hrec ?_))
  refine codeAny_mono (F X.A.in1 X.stack { s with toks := s.toks + 1 } H [.ref a] [] [.ref a] [] Q (fun _ _ _ => False) ⟨hr.rm.in1, fun z => by cases z⟩ I1.env0.in1 (.cons rfl .nil) .nil rfl h) fun r s' hq => ?_
  cases r with
  | error er =>
    obtain ⟨_, _, _, _, _, _, _, _, _, _, _, _, z⟩ := hq
    exact z.elim
  | ok fl =>
    cases fl with
    | ret u =>
      obtain ⟨v, H', I3, rv, q3⟩ := I1.after hq
      show wpAny _ _ (handedOut u) _ _ _
      rw [PySem.W.handedOut_of (handed_of rv)]
      exact wpAny_pure ⟨v, H', I3, rv, q3⟩
    | next => exact False.elim hq
    | brk => exact False.elim hq
    | cont => exact False.elim hq
theorem pe_propF (he : PE X e ta) (c : Cls X.K C) (hp : PropOf X.K C x p g) (F : FnG X.prog X.w X.K X.mg X.base false k g [] sp) (hr : Rb b (k + 1) X.A)
    (hab : attributeBase e x X.env (eval e X.env) = eval e X.env := by rfl) : PE X (.Attribute e x pos) (fun σ H Q => ta σ H fun v H1 => ∃ a dx fs, v = .ref a ∧ H1 a = some (.ins C dx fs) ∧ sp [.ref a] [] H1 Q (fun _ _ _ => False)) := by
  refine ⟨fun pins s σ H Q I h => ?_⟩
  refine attr_of hab (thn (he.run pins s σ H _ I h) fun u s1 ⟨x, H1, I1, rx, a, dx, fs, ex, ea, q⟩ => ?_)
  subst ex
  obtain rfl : u = Value.ref a := rx
  exact getprop_F I1 ea c hp F hr q
end
/-- a property of a class as a function -/
def CalP (P : Program) (w : World) (K : PySem.W.Frag) (mg : Str → Option Value) (base : Heap) (c x : Str) (k : Nat) (mm : Fn) : Prop :=
  ∃ C p fa, mg c = some (.ref C) ∧ Cls K C ∧ PropOf K C x p fa ∧ FnG P w K mg base false k fa [] (fun vs _ => spF ⟨K, mg⟩ 0 1 mm vs)
@[simp] def eProp (c : Str) (mm : Fn) (ev : EV) : EV := fun ρ => (ev ρ).bind fun d ρ1 => match d with
  | .obj c' fs => if c' = c then (match mm [] [d] with
    | .ok r _ => .ok r ρ1
    | _ => .no) else .no
  | _ => .no
section
variable {X : Cx} {f : Fm} {W : WX} {b : Bool} {k : Nat} {c x : Str} {mm : Fn} {e : Expr} {es : List Expr} {ev : EV} {av : AV} {pos : Pos}
theorem px_prop (M : CalP X.prog X.w X.K X.mg X.base c x k mm) (hr : Rb b (k + 1) X.A) (ho : PX X f W e ev) (eg : f.g = ⟨X.K, X.mg⟩ := by rfl) (hab : attributeBase e x X.env (eval e X.env) = eval e X.env := by rfl) :
    PX X f W (.Attribute e x pos) (eProp c mm ev) := by
  obtain ⟨C, p, fa, hm, hc, hM, F⟩ := M
  refine PE.imp (pe_propF ho hc hM F hr hab) fun σ H Q ⟨G, ρ, fi, q⟩ => ⟨G, ρ, fi, PostX.bind q fun d ρ1 G1 H1 s1 fi1 q1 v rv => ?_⟩
  cases hrv : rv <;> first | exact q1.elim | skip
  rename_i a C' dx fv c' fs ea od mg' ek rr
  simp only at q1
  split at q1
  rotate_left
  · exact q1.elim
  rename_i hcc
  subst hcc
  rw [eg] at mg'
  have eC : C' = C := by have := mg'.symm.trans hm; injection this with z; injection z
  subst eC
  refine ⟨a, dx, fv, rfl, fi1.gh _ _ ea, rfl, G1, [], [], _, [.obj c' fs], rfl, rfl, List.nodup_nil, fi1.gh, .nil, by rw [← eg]; exact .cons rv .nil, ?_⟩
  have ext : ∀ {G' H' : Hp}, Grow [] G1 H1 G' H' → Same G' H' → Ext G1 H1 G' H' := fun gr sg => ⟨gr.g, fun b o e => gr.h b o (by simp) e, sg, gr.f⟩
  cases hr2 : mm [] [.obj c' fs] with
  | ok d cs =>
    rw [hr2] at q1
    exact fun v G' H' gr sg _ rp => q1 G' H' gr.g (fi1.ext (ext gr sg)) v (by rw [eg]; exact rp)
  | er er cs => rw [hr2] at q1; exact q1.elim
  | okc c cs => rw [hr2] at q1; exact q1.elim
  | no => rw [hr2] at q1; exact q1.elim
end

/-! ### instances made -/
theorem FI.regrow {f : Fm} {G H G' H' : Hp} {σ : L2.St} {ρ : Ev} {p : Addr} {o o' : HO} (h : FI (f.add p o) G H σ ρ) (w : Grow [p] G H G' H') (sg : Same G' H') (e' : H' p = some o') (g' : G' p = none) : FI (f.add p o') G' H' σ ρ := by
  obtain ⟨a, b, z, n, ne⟩ := h.laid
  have hH : ∀ q o, q ≠ p → H q = some o → H' q = some o := fun q o n x => w.h q o (by simpa using n) x
  have fr : ∀ b, H b ≠ none → G b = none → G' b = none := fun b hb g0 => (w.f b hb).trans g0
  have cr : ∀ {q c}, q ≠ p → CellR f.g G H q c → CellR f.g G' H' q c := fun {q c} n x => by
    have t := x.th
    cases c with
    | lst ds => obtain ⟨g0, z, xs, e1, r1⟩ := x; exact ⟨fr q t g0, z, xs, hH _ _ n e1, r1.up w.g⟩
    | dic ks => obtain ⟨g0, z, xs, e1, e2, r1⟩ := x; exact ⟨fr q t g0, z, xs, hH _ _ n e1, e2, r1.up w.g⟩
    | ins c fs =>
      obtain ⟨g0, C, dx, fv, e1, e2, mm, q', r1⟩ := x
      exact ⟨fr q t g0, C, dx, fv, hH _ _ n e1, w.g _ _ e2, mm, q', r1.up w.g⟩
  refine ⟨sg, ⟨same_trans h.gr.g w.g, fun q u nb e0 => ?_, fun q hq => ?_⟩, h.len, fun j t ej => ?_, h.ap, h.bo, fun q hq => ?_, h.np⟩
  · exact hH q u (ne_of_none e0 z) (h.gr.h q u nb e0)
  · have hb : H q ≠ none := by
      by_cases hm : q ∈ f.ps
      · exact h.psH q hm
      · cases e : f.H0 q with
        | none => exact absurd e hq
        | some u => rw [h.gr.h q u hm e]; exact fun z => nomatch z
    exact (w.f q hb).trans (h.gr.f q hq)
  · have q := h.sl j t ej
    cases t with
    | no => trivial
    | dat d' => obtain ⟨v', e1, r'⟩ := q; exact ⟨v', e1, r'.up w.g⟩
    | own c => obtain ⟨p', e1, r', z⟩ := q; exact ⟨p', e1, cr (fun z2 => n j _ ej rfl (by rw [← z2]; exact e1)) r', z⟩
    | bor c => obtain ⟨p', z, e1, r'⟩ := q; exact ⟨p', z, e1, cr (fun z2 => n j _ ej rfl (by rw [← z2]; exact e1)) r'⟩
  · rcases List.mem_cons.mp hq with rfl | hq
    · exact ⟨e', g', z, n⟩
    · obtain ⟨a', b', c0, d'⟩ := h.pr q (List.mem_cons_of_mem _ hq)
      exact ⟨hH _ _ (ne q hq) a', fr q.1 (by rw [a']; exact fun z => nomatch z) b', c0, d'⟩
theorem CellR.ho {g : Gm} {G H : Hp} {p : Addr} {c : Cell} (h : CellR g G H p c) : ∃ o, H p = some o := by
  cases e : H p with
  | none => exact absurd e h.th
  | some o => exact ⟨o, rfl⟩
/-- an __init__'s promise: the instance is the first value -/
def spI (g : Gm) (mm : Fn) : SpK := fun vs _ H Q E => ∃ G p c xs ds, vs = .ref p :: xs ∧ Same G H ∧ CellR g G H p c ∧ RpL g G xs ds ∧ PostR g [p] G H Q E (mm [c] ds)
def CalI (P : Program) (w : World) (K : PySem.W.Frag) (mg : Str → Option Value) (base : Heap) (c : Str) (k : Nat) (mm : Fn) : Prop :=
  ∃ C fi, mg c = some (.ref C) ∧ Mk K C fi ∧ FnG P w K mg base false k fi [] (spI ⟨K, mg⟩ mm)
theorem spI_of {g : Gm} {np : Nat} {mm : Fn} (hl : ∀ cs ds, mm cs ds ≠ .no → cs.length + ds.length = np) {vs zs : List V} {H : Hp} {Q : VK} {E : XK} (h : spI g mm vs zs H Q E) : spF g 1 np mm vs H Q E := by
  obtain ⟨G, p, c, xs, ds, rfl, sg, cr, rp, post⟩ := h
  have hne : mm [c] ds ≠ .no := fun z => by rw [z] at post; exact post.elim
  have := hl _ _ hne
  exact ⟨by simp only [List.length_cons, rp.len]; simpa [Nat.add_comm] using this, G, [p], [c], xs, ds, rfl, rfl, by simp, sg, .cons cr .nil, rp, post⟩
section
variable {X : Cx} {f : Fm} {W : WX} {b : Bool} {k : Nat} {c x : Str} {mm : Fn} {e : Expr} {es : List Expr} {av : AV} {p pos : Pos} {C fi : Addr} {sp : SpK} {E : XK}
theorem run_makeF {pins : List (Addr × Obj)} {σ : L2.St} {H : Hp} {s : Shared} {Q : VK} {us : List Value} {vs : List V} (M : Mk X.K C fi) (F : FnG X.prog X.w X.K X.mg X.base false k fi [] sp) (hr : Rb b (k + 1) X.A)
    (hx : PassesAt (L2.CX X.prog X.w) X σ E) (I : Inv X pins σ H s) (r : Vals vs us)
    (h : ∀ x dx, H x = none → H dx = none → dx ≠ x → sp (.ref x :: vs) [] (upd (upd H dx (.own x)) x (.ins C dx [])) (fun v H2 => v = .non ∧ Q (.ref x) H2) E) :
    wpAny (model X.prog X.w) X.A (call (.ref C) us) (EP X pins σ Q) X.xe s := by
  have hq := h (s.heap.objs.size + 1) s.heap.objs.size (I.hok.fresh (Nat.le_succ _)) (I.hok.fresh (Nat.le_refl _)) (Nat.ne_of_lt (Nat.lt_succ_self _))
  have I2 := Inv.made (C := C) I
  have r2 : Vals (V.ref (s.heap.objs.size + 1) :: vs) (Value.ref (s.heap.objs.size + 1) :: us) := .cons rfl r
  refine wpAny_call (make_map (f := fi) I.kIn M.makes M.init (beq_iff_eq.mp M.fn) (codeAny_mono (F _ X.stack _ _ (Value.ref (s.heap.objs.size + 1) :: us) [] _ [] _ E ⟨hr.rm.make C us [], fun z => by cases z⟩
    (I2.env0.make C us []) r2 .nil rfl hq) fun r s' hq' => ?_))
  cases r with
  | error e => exact hx pins _ _ e s' I2 hq'
  | ok fl =>
    cases fl with
    | ret u =>
      obtain ⟨v, H', I3, rv, ev, q3⟩ := I2.after hq'
      subst ev
      exact ⟨rv, ⟨V.ref (s.heap.objs.size + 1), H', I3, rfl, q3⟩⟩
    | next => exact False.elim hq'
    | brk => exact False.elim hq'
    | cont => exact False.elim hq'
@[simp] def cNew (c : Str) (mm : Fn) (av : AV) : CV := fun ρ => (av ρ).bind fun ds ρ1 => match mm [.ins c []] ds with
  | .ok .non [c'] => .ok c' ρ1
  | .er e [_] => .er e ρ1
  | _ => .no
theorem new_end {G1 H1 : Hp} {σ : L2.St} {ρ1 : Ev} {Q : VK} {ds : List D} {y dx : Addr} (hm : f.g.mg c = some (.ref C)) (fi1 : FI f G1 H1 σ ρ1) (hy : H1 y = none) (hd : H1 dx = none) (hne : dx ≠ y)
    (q : PostF f W σ G1 Q (match mm [.ins c []] ds with
      | .ok .non [c'] => .ok c' ρ1
      | .er e [_] => .er e ρ1
      | _ => .no)) : Same (upd G1 dx (.own y)) (upd (upd H1 dx (.own y)) y (.ins C dx [])) ∧ Same G1 (upd G1 dx (.own y)) ∧ CellR f.g (upd G1 dx (.own y)) (upd (upd H1 dx (.own y)) y (.ins C dx [])) y (.ins c []) ∧
      PostR f.g [y] (upd G1 dx (.own y)) (upd (upd H1 dx (.own y)) y (.ins C dx [])) (fun v H2 => v = .non ∧ Q (.ref y) H2) (WE W σ) (mm [.ins c []] ds) := by
  have x1 := Ext.new (o := .own y) fi1.gh hd
  have fi2 := fi1.ext x1
  have hy2 : (upd H1 dx (HO.own y)) y = none := (upd_ne hne.symm).trans hy
  have fi3 := fi2.lay (o := .ins C dx []) hy2
  have gy : G1 y = none := by
    cases e : G1 y with
    | none => rfl
    | some u => rw [fi1.gh y u e] at hy; cases hy
  refine ⟨fi3.gh, x1.g, ⟨(upd_ne hne.symm).trans gy, C, dx, [], upd_same, upd_same, hm, rfl, .nil⟩, ?_⟩
  cases hr : mm [.ins c []] ds with
  | ok d cs =>
    rw [hr] at q
    intro v G' H' gr sg cr rp
    match cs, cr with
    | [c'], .cons cr .nil =>
      obtain ⟨o', ho⟩ := cr.ho
      have fi4 := fi3.regrow gr sg ho cr.fr
      cases rp <;> first | exact q.elim | skip
      exact ⟨rfl, q y o' G' H' (same_trans x1.g gr.g) fi4 cr⟩
    | [], cr => cases cr
    | _ :: _ :: _, cr => cases cr with | cons _ r => cases r
  | er er cs =>
    rw [hr] at q
    intro cls dd G' H' gr sg cr rp
    match cs, cr with
    | [c'], .cons cr .nil =>
      obtain ⟨o', ho⟩ := cr.ho
      exact q cls dd G' H' (same_trans x1.g gr.g) (fi3.regrow gr sg ho cr.fr).unlay rp
    | [], cr => cases cr
    | _ :: _ :: _, cr => cases cr with | cons _ r => cases r
  | okc c cs => rw [hr] at q; exact q.elim
  | no => rw [hr] at q; exact q.elim
theorem pxf_new (M : CalI X.prog X.w X.K X.mg X.base c k mm) (hr : Rb b (k + 1) X.A) (ha : PXA X f W (e :: es) av) (tk : Takes X W) (eg : f.g = ⟨X.K, X.mg⟩ := by rfl) (hg : Gl X c := by rfl) (hdb : (c == ("__debug__" : Str)) = false := by decide)
    (he : starEach (e :: es) X.env = (false, eval e X.env) :: starEach es X.env := by rfl) (hpl : (backTo pos (starEach es X.env)).any (·.1) = false := by rfl) : PXF X f W (.Call (.Name c p) (e :: es) [] pos) (cNew c mm av) := by
  obtain ⟨C, fi, hm, hM, F⟩ := M
  refine ⟨fun pins s σ H Q I ⟨G, ρ, fI, q⟩ => ?_⟩
  refine wpAny_Call_Name_kw (ld_glob I hg hm ?_ hdb)
  refine PySem.W.callWith_K (h₀ := X.base) I.ok.mod.kin hM.kp (thn (ha.run pos pins s σ H (fun vs H1 => ∃ G1 ρ1 ds, FI f G1 H1 σ ρ1 ∧ RpL f.g G1 vs ds ∧ PostF f W σ G1 Q (match mm [.ins c []] ds with
      | .ok .non [c'] => .ok c' ρ1
      | .er e [_] => .er e ρ1
      | _ => .no)) I ⟨G, ρ, fI, PostF.bindX q fun ds ρ1 G1 H1 s1 fi1 q1 vs rvs => ⟨G1, ρ1, ds, fi1, rvs, q1⟩⟩) fun us s1 ⟨vs, H1, I1, r, G1, ρ1, ds, fi1, rvs, q1⟩ => ⟨I1.kIn, ?_⟩) he hpl
  refine run_makeF hM F hr (passAt tk σ) I1 r fun y dx hy hd hne => ?_
  obtain ⟨a1, a2, a3, a4⟩ := new_end (by rw [eg]; exact hm) fi1 hy hd hne q1
  rw [eg] at a3 a4 rvs
  exact ⟨_, y, _, vs, ds, rfl, a1, a3, rvs.up a2, a4⟩
theorem pxf_new0 (M : CalI X.prog X.w X.K X.mg X.base c k mm) (hr : Rb b (k + 1) X.A) (tk : Takes X W) (eg : f.g = ⟨X.K, X.mg⟩ := by rfl) (hg : Gl X c := by rfl) (hdb : (c == ("__debug__" : Str)) = false := by decide) :
    PXF X f W (.Call (.Name c p) [] [] pos) (cNew c mm aNil) := by
  obtain ⟨C, fi, hm, hM, F⟩ := M
  refine ⟨fun pins s σ H Q I ⟨G, ρ, fI, q⟩ => ?_⟩
  refine wpAny_Call_Name_kw (ld_glob I hg hm ?_ hdb)
  refine PySem.W.callWith_K0 I.kIn hM.kp (run_makeF (us := []) hM F hr (passAt tk σ) I .nil fun y dx hy hd hne => ?_)
  simp only [cNew, aNil, Re.bind] at q
  obtain ⟨a1, a2, a3, a4⟩ := new_end (by rw [eg]; exact hm) fI hy hd hne q
  rw [eg] at a3 a4
  exact ⟨_, y, _, [], [], rfl, a1, a3, .nil, a4⟩
end
end Dx

set_option Elab.async false
set_option linter.all false
set_option maxRecDepth 100000
set_option maxHeartbeats 4000000
/-! the data layer: an __init__ with *rest -/
namespace Dx
open PySem PySem.Spec PyProof.Rows L2 Gd
theorem PostR.mono1 {g : Gm} {p : Addr} {G H G' H' : Hp} {Q : VK} {E : XK} (x : Ext G H G' H') (hp : H p ≠ none) : ∀ {r : FR}, (∀ c cs, r ≠ .okc c cs) → PostR g [p] G H Q E r → PostR g [p] G' H' Q E r := by
  have tr : ∀ {G2 H2 : Hp}, Grow [p] G' H' G2 H2 → Grow [p] G H G2 H2 := fun gr => ⟨same_trans x.g gr.g, fun q o n e => gr.h q o n (x.h q o e), fun q hq => (gr.f q fun z => by
    cases e : H q with
    | none => exact hq e
    | some o => rw [x.h q o e] at z; cases z).trans (x.f q hq)⟩
  intro r hn h
  cases r with
  | ok d cs => exact fun v G2 H2 gr sg cr rp => h v G2 H2 (tr gr) sg cr rp
  | er e cs => exact fun cls dd G2 H2 gr sg cr rp => h cls dd G2 H2 (tr gr) sg cr rp
  | okc c cs => exact absurd rfl (hn c cs)
  | no => exact h.elim
section
variable {P : Program} {w : World} {K : PySem.W.Frag} {mg : Str → Option Value} {base : Heap} {b : Bool} {k : Nat} {f : Addr} {name qual : Str} {st : Stmt} {fd : FuncData} {N qs : List Str} {pv : Str} {sv : SV}
/-- def __init__(self, a, .., *v), called with the instance, n positions at least and no keywords -/
theorem fnxI (F : Fun K name qual st f fd) {s0 : Str} (S : FnScope N (s0 :: (qs ++ [pv])) (defScope st))
    (hb : ∀ (kV doc pm : Value) (an : Option Addr) (cdv ct u0 : Value) (us rest : List Value), us.length = qs.length →
      bindArgs (PySem.W.fnOf name qual (defArgs st) (defBody st) (defScope st) .none kV doc pm an cdv ct) ⟨u0 :: (us ++ rest), []⟩ = (newTuple rest >>= fun t => pure ((s0, u0) :: (qs.zip us ++ [(pv, t)]))))
    (B : BodyX P w K mg base b k N qual (defScope st) f (defBody st) sv) :
    FnG P w K mg base b (k + 1) f [] (spI ⟨K, mg⟩ fun cs ds => if qs.length ≤ ds.length ∧ ds.length ≤ big then noC (fnB N.length 1 (qs.length + 2) sv cs (ds.take qs.length ++ [.tup (ds.drop qs.length)])) else .no) := by
  obtain ⟨oc, od, kV, doc, pm, an, cdv, ct, osl, rfl, lk, hcd⟩ := F.ex
  intro A outer s H us ws vs zs Q E hr e0 r rz hzl ⟨G, p0, c, xs, ds, ev, sg, cr, rd, post⟩
  subst ev
  dsimp only at post
  split at post
  rotate_left
  · exact post.elim
  rename_i hc
  obtain ⟨hn, hbig⟩ := hc
  cases r with
  | cons ru0 r =>
  rename_i u0 us
  have kin : K.In s.heap := e0.mod.kin.keeps fun b o e => (e0.bs b o e).1
  have hnn : H s.heap.objs.size = none := e0.hok.fresh (Nat.le_refl _)
  obtain ⟨u1, u2, eu, r1, r2⟩ : ∃ u1 u2, us = u1 ++ u2 ∧ Vals (xs.take qs.length) u1 ∧ Vals (xs.drop qs.length) u2 := by
    have := StX.vals_split (ws := xs.take qs.length) (rest := xs.drop qs.length) (us := us) (by rw [List.take_append_drop]; exact r)
    obtain ⟨u1, u2, a, b, c⟩ := this
    exact ⟨u1, u2, a, b, c⟩
  subst eu
  have l1 : u1.length = qs.length := by rw [← r1.length, List.length_take, rd.len]; omega
  have l2 : u2.length ≤ sizeLine := by rw [← r2.length, List.length_drop, rd.len]; exact Nat.le_trans (Nat.sub_le _ _) (Nat.le_trans hbig big_le)
  refine StX.run_bnd (CX := L2.CX P w) lk hcd S hr.rm e0 (G := fun ys H2 => ∃ p, H p = none ∧ ys = V.ref p0 :: (xs.take qs.length ++ [V.ref p]) ∧ H2 = upd H p (.tup (xs.drop qs.length))) (fun A' Ex Q' h => ?_) fun s2 H2 ys ⟨p, hp, h2, h3⟩ hr' => ?_
  · rw [show (⟨u0 :: (u1 ++ u2), ([] : List Str).zip ws⟩ : Args) = ⟨u0 :: (u1 ++ u2), []⟩ from rfl, hb kV doc pm an cdv ct u0 u1 u2 l1]
    refine wpAny_bind (wpAny_newTuple (wpAny_pure ?_) l2)
    have new : ObjOk P w (upd H s.heap.objs.size (.tup (xs.drop qs.length))) (s.heap.push ({ cls := .type "tuple", data := .seq u2.toArray } : Obj)) s.heap.objs.size (.tup (xs.drop qs.length)) :=
      ⟨by rw [r2.length]; exact l2, u2, r2, ⟨_, Heap.get?_push_size _ rfl, rfl, _, rfl⟩⟩
    have un := StX.un_laid (fs := frs outer) (s := s) (o := ({ cls := .type "tuple", data := .seq u2.toArray } : Obj)) (u := .tup (xs.drop qs.length)) hnn
    have z := h _ _ (V.ref p0 :: (xs.take qs.length ++ [V.ref s.heap.objs.size])) (u0 :: (u1 ++ [Value.ref s.heap.objs.size])) (StX.env0_laid e0 new) un rfl
      (fun e s' => StX.cxUp outer s H _ _ E e s' un (fun b o q => Heap.get?_push_of_some _ q) rfl) (.cons ru0 (r1.append (.cons rfl .nil)))
      (by have := rd.len; simp [List.length_take]; omega) ⟨_, hnn, rfl, rfl⟩
    rw [List.zip_cons_cons, List.zip_append (by rw [l1])] at z
    exact z
  · subst h2 h3
    have x := Ext.new (o := .tup (xs.drop qs.length)) sg hp
    have rr : RpL ⟨K, mg⟩ (upd G p (.tup (xs.drop qs.length))) (xs.take qs.length ++ [V.ref p]) (ds.take qs.length ++ [.tup (ds.drop qs.length)]) :=
      RpL.app ((rd.take _).up x.g) (.cons (.tup (SqT.of upd_same) (by rw [List.length_drop]; omega) ((rd.drop _).up x.g)) .nil)
    refine body_run (ps := [p0]) (cs := [c]) S B ⟨hr', hr.gd⟩ rfl (by simp) x.i (.cons (cr.ext x) .nil) rr (by simp; omega) ?_
    have e : (s0 :: (qs ++ [pv])).length = qs.length + 2 := by simp
    rw [e]
    exact noC_of (PostR.mono1 x cr.th (noC_ne _) post)
end
end Dx

set_option Elab.async false
set_option linter.all false
set_option maxRecDepth 100000
set_option maxHeartbeats 4000000
/-! the data layer: operators by own methods -/
namespace Dx
open PySem PySem.Spec PyProof.Rows L2 Gd
/-- a special method of a class as a function -/
def CalS (P : Program) (w : World) (K : PySem.W.Frag) (mg : Str → Option Value) (base : Heap) (c nm : Str) (k np : Nat) (mm : Fn) : Prop :=
  ∃ C fa, mg c = some (.ref C) ∧ PySem.W.findIn K (.ref C) nm = some (some (.ref fa)) ∧ PySem.W.isFn K (.ref fa) = true ∧ FnG P w K mg base false k fa [] (fun vs _ => spF ⟨K, mg⟩ 0 np mm vs)
/-- classes with a special method each -/
abbrev Ms := List (Str × Fn)
def AllS (P : Program) (w : World) (K : PySem.W.Frag) (mg : Str → Option Value) (base : Heap) (nm : Str) (k np : Nat) (ms : Ms) : Prop := ∀ c mm, ms.lookup c = some mm → CalS P w K mg base c nm k np mm
section
variable {X : Cx} {g : Gm} {b : Bool} {k np : Nat} {ms : Ms} {nm : Str} {mm : Fn} {fa : Addr}
/-- a call inside of a built-in, of a function that raises nothing; Y: the arounds there -/
theorem run_in {pins : List (Addr × Obj)} {σ : L2.St} {H : Hp} {s : Shared} {E' : Value → Shared → Prop} {us : List Value} {vs : List V} {ds : List D} {d : D} {cs : List Cell} {G : Hp} {Q : VK} (F : FnG X.prog X.w X.K X.mg X.base false k fa [] (fun vs _ => spF ⟨X.K, X.mg⟩ 0 np mm vs)) {A : Around}
    (hr : Room k A) (e0 : Env0 X.prog X.w X.K X.mg X.base A X.stack s H) (I : Inv X pins σ H s) (r : Vals vs us) (sg : Same G H) (rd : RpL ⟨X.K, X.mg⟩ G vs ds) (hl : vs.length = np) (hm : mm [] ds = .ok d cs)
    (q : ∀ v G' H', Ext G H G' H' → Rp ⟨X.K, X.mg⟩ G' v d → Q v H') : wpAny (model X.prog X.w) A (call (.ref fa) us) (EP X pins σ Q) E' s := by
  refine wpAny_call (codeAny_mono (F A X.stack s H us [] vs [] Q (fun _ _ _ => False) ⟨hr, fun z => by cases z⟩ e0 r .nil rfl ?_) fun r s' hq => ?_)
  · refine spF_run sg rd hl ?_
    rw [hm]
    exact fun v G' H' gr sg' _ rp => q v G' H' ⟨gr.g, fun b o e => gr.h b o (by simp) e, sg', gr.f⟩ rp
  · cases r with
    | error e =>
      obtain ⟨_, _, _, _, _, _, _, _, _, _, _, _, z⟩ := hq
      exact z.elim
    | ok fl =>
      cases fl with
      | ret u => exact I.after hq
      | next => exact False.elim hq
      | brk => exact False.elim hq
      | cont => exact False.elim hq
/-! ### len -/
def lenU (ms : Ms) : D → Option D
  | .obj c fs => (ms.lookup c).bind fun mm => match mm [] [.obj c fs] with
    | .ok (.int n) _ => if 0 ≤ n ∧ n.natAbs < 2 ^ 63 then some (.int n) else none
    | _ => none
  | d => fLen [d]
def fLenU (ms : Ms) : List D → Option D
  | [d] => lenU ms d
  | _ => none
theorem cx_lenU (M : AllS X.prog X.w X.K X.mg X.base "__len__" k 1 ms) (hr : Rb b (k + 1) X.A) (eg : g = ⟨X.K, X.mg⟩ := by rfl) : CaX X g (.builtin "len") (fLenU ms) := by
  intro pins s σ H vs us Q I rv ⟨G, ds, r, sg, rd, hF, q⟩
  match ds, hF with
  | [.non], hF => exact cx_len (g := g) (by rw [eg]) pins s σ H vs us Q I rv ⟨G, _, r, sg, rd, hF, q⟩
  | [.bl _], hF => exact cx_len (g := g) (by rw [eg]) pins s σ H vs us Q I rv ⟨G, _, r, sg, rd, hF, q⟩
  | [.int _], hF => exact cx_len (g := g) (by rw [eg]) pins s σ H vs us Q I rv ⟨G, _, r, sg, rd, hF, q⟩
  | [.str _], hF => exact cx_len (g := g) (by rw [eg]) pins s σ H vs us Q I rv ⟨G, _, r, sg, rd, hF, q⟩
  | [.tup _], hF => exact cx_len (g := g) (by rw [eg]) pins s σ H vs us Q I rv ⟨G, _, r, sg, rd, hF, q⟩
  | [.lst _], hF => exact cx_len (g := g) (by rw [eg]) pins s σ H vs us Q I rv ⟨G, _, r, sg, rd, hF, q⟩
  | [.dic _], hF => exact cx_len (g := g) (by rw [eg]) pins s σ H vs us Q I rv ⟨G, _, r, sg, rd, hF, q⟩
  | [.ty _], hF => exact cx_len (g := g) (by rw [eg]) pins s σ H vs us Q I rv ⟨G, _, r, sg, rd, hF, q⟩
  | [.cls _], hF => exact cx_len (g := g) (by rw [eg]) pins s σ H vs us Q I rv ⟨G, _, r, sg, rd, hF, q⟩
  | [.scr _], hF => exact cx_len (g := g) (by rw [eg]) pins s σ H vs us Q I rv ⟨G, _, r, sg, rd, hF, q⟩
  | [.obj c fs], hF =>
    obtain ⟨mm, hm, h2⟩ := Option.bind_eq_some_iff.mp (show (ms.lookup c).bind _ = some r from hF)
    split at h2
    rotate_left
    · cases h2
    rename_i n cs hr2
    split at h2
    rotate_left
    · cases h2
    rename_i hb
    cases h2
    obtain ⟨C, fa, hc, hs, hf, F⟩ := M c mm hm
    obtain ⟨v, rfl, rp⟩ := rpl1 rd
    obtain ⟨u, rfl, rx⟩ := rv.one
    subst eg
    cases hrp : rp
    rename_i a C' dx fv ea od mg' ek rr
    have eC : C' = C := by have := mg'.symm.trans hc; injection this with z; injection z
    subst eC
    cases rx
    obtain ⟨mA, J, _⟩ := ins_get I.hok (sg _ _ ea)
    obtain ⟨od', J, _⟩ := J.look
    obtain ⟨m, hFr⟩ := I.fr
    refine PySem.W.len_K hFr I.ok.mod.kin J hs hf ?_
    refine wpAny_mono (run_in (E' := X.xe) (vs := [.ref a]) (Q := fun v H' => v = .int n ∧ Q (.int n) H') F hr.rm.in1 I.env0.in1 I (.cons rfl .nil) sg (.cons rp .nil) rfl hr2 fun v G' H' x r' => ?_) (fun z s' hq => ?_) fun _ _ y => y
    · cases r'
      exact ⟨rfl, q _ G' H' x (.int n)⟩
    · obtain ⟨v, H', I', rz, rfl, hq⟩ := hq
      obtain ⟨t, rfl⟩ := rz
      exact ⟨⟨hb.1, by omega⟩, .int n, H', I'.tok _, ⟨_, rfl⟩, hq⟩
  | [], hF => cases hF
  | _ :: _ :: _, hF => cases hF
/-! ### in -/
def dInU (neg : Bool) (ms : Ms) (x y : D) : Option D := match y with
  | .obj c fs => (ms.lookup c).bind fun mm => match mm [] [.obj c fs, x] with
    | .ok (.bl b) _ => some (.bl (xor neg b))
    | _ => none
  | y => dIn neg x y
theorem ox_inU (M : AllS X.prog X.w X.K X.mg X.base "__contains__" k 2 ms) (hr : Rb b k X.A) (hu : X.A.units + 65 < cLine) (eg : g = ⟨X.K, X.mg⟩ := by rfl) : OpX X g (compareOp .In) (dInU false ms) := by
  intro pins s σ H x y u v Q I rx ry ⟨G, d, e, r, sg, rd, re, hF, q⟩
  by_cases ho : ∃ c fs, e = .obj c fs
  · obtain ⟨c, fs, rfl⟩ := ho
    obtain ⟨mm, hm, h2⟩ := Option.bind_eq_some_iff.mp (show (ms.lookup c).bind _ = some r from hF)
    split at h2
    rotate_left
    · cases h2
    rename_i bb cs hr2
    cases h2
    obtain ⟨C, fa, hc, hs, hf, F⟩ := M c mm hm
    subst eg
    cases hrp : re
    rename_i a C' dx fv ea od mg' ek rr
    have eC : C' = C := by have := mg'.symm.trans hc; injection this with z; injection z
    subst eC
    cases ry
    obtain ⟨mA, J, _⟩ := ins_get I.hok (sg _ _ ea)
    obtain ⟨od', J, _⟩ := J.look
    obtain ⟨m, hFr⟩ := I.fr
    refine PySem.W.in_K hFr I.ok.mod.kin J hs hf ?_
    refine wpAny_mono (run_in (E' := X.xe) (vs := [.ref a, x]) (Q := fun v H' => v = .bl bb ∧ Q (.bl (xor false bb)) H') F hr.rm I.env0 I (.cons rfl (.cons rx .nil)) sg (.cons re (.cons rd .nil)) rfl hr2 fun v G' H' x r' => ?_) (fun z s' hq => ?_) fun _ _ y => y
    · cases r'
      exact ⟨rfl, q _ G' H' x (.bl _)⟩
    · obtain ⟨v, H', I', rz, rfl, hq⟩ := hq
      cases rz
      rw [Bool.false_xor] at hq
      exact wpAny_truthy_bool ⟨.bl bb, H', I', rfl, hq⟩
  · have : dInU false ms d e = dIn false d e := by
      cases e <;> first | rfl | exact absurd ⟨_, _, rfl⟩ ho
    rw [this] at hF
    exact ox_in (g := g) hu (by rw [eg]) pins s σ H x y u v Q I rx ry ⟨G, d, e, r, sg, rd, re, hF, q⟩
end
end Dx

set_option Elab.async false
set_option linter.all false
set_option maxRecDepth 100000
set_option maxHeartbeats 4000000
/-! the data layer: ==, [], + by own methods; isinstance of own classes -/
namespace Dx
open PySem PySem.Spec PyProof.Rows L2 Gd
/-- what a class's instances are to isinstance and to the built-in types -/
structure InsF (K : PySem.W.Frag) (C : Addr) : Prop where
  cl : Cls K C
  ha : PySem.W.findIn K (.ref C) "__class__" = some (some (.builtin "object.__class__"))
  hn : PySem.W.specialIn K (.builtin "object.__class__") "__get__" = some (some (.builtin "getset_descriptor.__get__"))
  htk : PySem.W.takesIn K (.builtin "object.__class__") = some true
  hm : PySem.W.mroIn K C (.type "object") = some true
def tyL : List String := ["NoneType", "bool", "int", "str", "tuple", "list", "dict"]
def ClsF (K : PySem.W.Frag) (mg : Str → Option Value) (c : Str) : Prop := ∃ C, mg c = some (.ref C) ∧ InsF K C ∧ (∀ t ∈ tyL, PySem.W.notFirst K C (.type t) = true) ∧ (∀ t ∈ tyL, PySem.W.kitOne K (.type t) (.ref C) = some false) ∧ PySem.W.noSeq K C = true ∧ PySem.W.selfFirst K C = true
section
variable {X : Cx} {g : Gm} {b : Bool} {k np : Nat} {ms : Ms} {nm : Str} {mm : Fn} {fa : Addr}
/-- the instance behind an object's datum -/
theorem ins_at {pins : List (Addr × Obj)} {σ : L2.St} {H : Hp} {s : Shared} {G : Hp} {v : V} {u : Value} {c : Str} {fs : List (Str × D)} {C : Addr} (I : Inv X pins σ H s) (sg : Same G H) (rp : Rp g G v (.obj c fs)) (rx : RelV v u) (hc : g.mg c = some (.ref C)) :
    ∃ a ox od dx fv, v = .ref a ∧ u = .ref a ∧ PySem.W.InstAt s.heap a ox C od ∧ H a = some (.ins C dx fv) := by
  cases rp
  rename_i a C' dx fv ea od mg' ek rr
  have eC : C' = C := by have := mg'.symm.trans hc; injection this with z; injection z
  subst eC
  cases rx
  obtain ⟨mA, J, _⟩ := ins_get I.hok (sg _ _ ea)
  obtain ⟨od', J, _⟩ := J.look
  exact ⟨a, _, _, _, _, rfl, rfl, J, sg _ _ ea⟩
/-! ### == -/
def rightOk (c : Str) : D → Bool
  | .obj c2 _ => decide (c2 = c)
  | y => (tyD y).isSome
def dEqU (ms : Ms) (x y : D) : Option D := match x with
  | .obj c fs => (ms.lookup c).bind fun mm => if rightOk c y = true then (match mm [] [.obj c fs, y] with
    | .ok (.bl b) _ => some (.bl b)
    | _ => none) else none
  | _ => dEq x y
theorem ox_eqU (M : AllS X.prog X.w X.K X.mg X.base "__eq__" k 2 ms) (N : ∀ c mm, ms.lookup c = some mm → ClsF X.K X.mg c) (hr : Rb b k X.A) (eg : g = ⟨X.K, X.mg⟩ := by rfl) : OpX X g (compareOp .Eq) (dEqU ms) := by
  intro pins s σ H x y u v Q I rx ry ⟨G, d, e, r, sg, rd, re, hF, q⟩
  by_cases ho : ∃ c fs, d = .obj c fs
  · obtain ⟨c, fs, rfl⟩ := ho
    obtain ⟨mm, hm, h2⟩ := Option.bind_eq_some_iff.mp (show (ms.lookup c).bind _ = some r from hF)
    split at h2
    rotate_left
    · cases h2
    rename_i hy
    split at h2
    rotate_left
    · cases h2
    rename_i bb cs hr2
    cases h2
    obtain ⟨C, fa, hc, hs, hf, F⟩ := M c mm hm
    obtain ⟨C2, hc2, hI, hnf, _, _, _⟩ := N c mm hm
    have : C2 = C := by have := hc2.symm.trans hc; injection this with z; injection z
    subst this
    subst eg
    obtain ⟨a, ox, od, dx, fv, rfl, rfl, J, ea⟩ := ins_at I sg rd rx hc
    obtain ⟨m, hFr⟩ := I.fr
    obtain ⟨tb, hb, hn⟩ : ∃ tb, PySem.W.Looks (model X.prog X.w) s.heap (typeOf v) tb ∧ PySem.W.notFirst X.K C2 tb = true := by
      cases ht : tyD e with
      | some t =>
        obtain ⟨P, Z, p, _⟩ := kit_of I ry (tyx_of sg re ht)
        exact ⟨.type t, Z.ty _ _ I.kIn p, hnf t (by have := tyD_mem ht; exact this)⟩
      | none =>
        cases e <;> simp only [tyD, reduceCtorEq] at ht <;> simp only [rightOk, tyD, Option.isSome_none, Bool.false_eq_true, decide_eq_true_eq] at hy
        subst hy
        obtain ⟨a2, ox2, od2, _, _, rfl, rfl, J2, _⟩ := ins_at I sg re ry hc
        exact ⟨.ref C2, J2.type, by simp [PySem.W.notFirst]⟩
    refine PySem.W.cmp_K (op := .Eq) hr.rm.units0 hFr I.ok.mod.kin J hb hn hs hf ?_
    refine wpAny_mono (run_in (E' := X.xe) (vs := [.ref a, y]) (Q := fun v H' => v = .bl bb ∧ Q (.bl bb) H') F hr.rm I.env0 I (.cons rfl (.cons ry .nil)) sg (.cons rd (.cons re .nil)) rfl hr2 fun v G' H' x r' => ?_) (fun z s' hq => ?_) fun _ _ y => y
    · cases r'
      exact ⟨rfl, q _ G' H' x (.bl _)⟩
    · obtain ⟨v, H', I', rz, rfl, hq⟩ := hq
      cases rz
      exact ⟨.bl bb, H', I', rfl, hq⟩
  · have : dEqU ms d e = dEq d e := by
      cases d <;> first | rfl | exact absurd ⟨_, _, rfl⟩ ho
    rw [this] at hF
    exact ox_eq (g := g) hr.units (by rw [eg]) pins s σ H x y u v Q I rx ry ⟨G, d, e, r, sg, rd, re, hF, q⟩
/-! ### isinstance -/
def fIsiO (c : Str) : List D → Option D
  | [.obj c' _, .cls c2] => if c2 = c ∧ c' = c then some (.bl true) else none
  | [d, .cls c2] => if c2 = c then (tyD d).map fun _ => .bl false else none
  | _ => none
theorem cx_isiO {c : Str} (N : ClsF X.K X.mg c) (eg : g = ⟨X.K, X.mg⟩ := by rfl) : CaX X g (.builtin "isinstance") (fIsiO c) := by
  intro pins s σ H vs us Q I rv ⟨G, ds, r, sg, rd, hF, q⟩
  obtain ⟨C, hc, hI, _, hk, _, _⟩ := N
  unfold fIsiO at hF
  split at hF
  · rename_i c' fs c2
    split at hF <;> cases hF
    rename_i h
    obtain ⟨rfl, rfl⟩ := h
    obtain ⟨v, w, rfl, rp, rp2⟩ := rpl2 rd
    subst eg
    cases hrp : rp
    rename_i a C' dx fv ea od mg' ek rr
    have eC : C' = C := by have := mg'.symm.trans hc; injection this with z; injection z
    subst eC
    cases rp2
    rename_i C3 m3
    have eC : C3 = C' := by have := m3.symm.trans hc; injection this with z; injection z
    subst eC
    exact call_isi pins s σ H _ us Q I rv ⟨.ref a, .ref C3, .ref C3, .ref C3, true, rfl, .own _, .base (.ins (sg _ _ ea) hI.cl hI.ha hI.hn hI.htk hI.hm), by unfold PySem.W.kitOne; simp, q _ G H (Ext.rfl sg) (.bl _)⟩
  · rename_i d c2 _
    split at hF
    rotate_left
    · cases hF
    rename_i h
    subst h
    obtain ⟨t, h1, h2⟩ := Option.map_eq_some_iff.mp hF
    subst h2
    obtain ⟨v, w, rfl, rp, rp2⟩ := rpl2 rd
    subst eg
    cases rp2
    rename_i C3 m3
    have eC : C3 = C := by have := m3.symm.trans hc; injection this with z; injection z
    subst eC
    exact call_isi pins s σ H _ us Q I rv ⟨v, .ref C3, .type t, .ref C3, false, rfl, .own _, tyx_of sg rp h1, hk t (tyD_mem h1), q _ G H (Ext.rfl sg) (.bl _)⟩
  · cases hF
end
end Dx

set_option Elab.async false
set_option linter.all false
set_option maxRecDepth 100000
set_option maxHeartbeats 4000000
/-! the data layer: [] and + by own methods -/
namespace Dx
open PySem PySem.Spec PyProof.Rows L2 Gd
section
variable {X : Cx} {f : Fm} {W : WX} {g : Gm} {bb : Bool} {k : Nat} {ms : Ms}
theorem cmpBack_of {Q : Value → Shared → Prop} {v : V} {u : Value} {s' : Shared} (rz : RelV v u) (h : Q u s') : PySem.W.CmpBack Q u s' := by
  cases u <;> first | exact h | (cases v <;> first | (cases rz; done) | (obtain ⟨_, z⟩ := rz; cases z; done))
def dIxU (ms : Ms) (x y : D) : Option D := match x with
  | .obj c fs => (ms.lookup c).bind fun mm => match mm [] [.obj c fs, y] with
    | .ok d _ => some d
    | _ => none
  | _ => dIx x y
theorem ix_any {a b : Expr} {ta tb : TE} {pos : Pos} {r : R2} (ha : PE X a ta) (hb : PE X b tb)
    (hr : ∀ (pins : List (Addr × Obj)) (s : Shared) (σ : L2.St) (H : Hp) (x y : V) (v u : Value) (Q : VK), Inv X pins σ H s → RelV x v → RelV y u → r x y H Q → wpAny (model X.prog X.w) X.A (subscriptTail a b v u) (EP X pins σ Q) X.xe s) : PE X (.Subscript a b pos) (tOp r ta tb) :=
  ⟨fun pins s σ H Q I h => Subscript_ (binT ha hb I h fun v u s2 x y H2 I2 rx ry q => hr pins s2 σ H2 x y v u Q I2 rx ry q)⟩
theorem px_ixU {a b : Expr} {ea eb : EV} {pos : Pos} (M : AllS X.prog X.w X.K X.mg X.base "__getitem__" k 2 ms) (N : ∀ c mm, ms.lookup c = some mm → ∀ C fa, X.mg c = some (.ref C) → PySem.W.findIn X.K (.ref C) "__getitem__" = some (some (.ref fa)) → PySem.W.fnIn X.K fa = true)
    (hr : Rb bb (k + 1) X.A) (ha : PX X f W a ea) (hb : PX X f W b eb) (hs : PlainIx b := by intro _ _; rfl) (hs2 : ∀ o i, subscripted b true o i = runValue (.builtin "lifetime.subscript" ⟨[o, i], []⟩) := by intro _ _; rfl) (eg : f.g = ⟨X.K, X.mg⟩ := by rfl) :
    PX X f W (.Subscript a b pos) (eOp (dIxU ms) ea eb) :=
  PE.imp (ix_any (r := rX2 f.g (dIxU ms)) ha hb fun pins s σ H x y v u Q I rx ry ⟨G, d, e, r, sg, rd, re, hF, q⟩ => by
    by_cases ho : ∃ c fs, d = .obj c fs
    · obtain ⟨c, fs, rfl⟩ := ho
      obtain ⟨mm, hm, h2⟩ := Option.bind_eq_some_iff.mp (show (ms.lookup c).bind _ = some r from hF)
      split at h2
      rotate_left
      · cases h2
      rename_i d2 cs hr2
      cases h2
      obtain ⟨C, fa, hc, hs', hf, F⟩ := M c mm hm
      have hfn := N c mm hm C fa hc hs'
      rw [eg] at rd re q
      obtain ⟨a', ox, od, dx, fv, rfl, rfl, J, ea'⟩ := ins_at I sg rd rx hc
      obtain ⟨m, hFr⟩ := I.fr
      refine PySem.W.sub_K hFr I.ok.mod.kin J hs' hfn hf ?_ (hs2 _ _)
      exact run_in (E' := X.xe) (vs := [.ref a', y]) F hr.rm.in1 I.env0.in1 I (.cons rfl (.cons ry .nil)) sg (.cons rd (.cons re .nil)) rfl hr2 q
    · have : dIxU ms d e = dIx d e := by
        cases d <;> first | rfl | exact absurd ⟨_, _, rfl⟩ ho
      rw [this] at hF
      exact ixx (hu1 hr) (by rw [eg]) a b pins s σ H x y v u Q I rx ry ⟨G, d, e, r, sg, rd, re, hF, q⟩ (hs _ _)) fun _ _ _ h => two h
/-! ### + -/
def dAddU (ms : Ms) (x y : D) : Option D := match x with
  | .obj c fs => (ms.lookup c).bind fun mm => match y with
    | .obj c2 fs2 => if c2 = c then (match mm [] [.obj c fs, .obj c2 fs2] with
      | .ok d _ => some d
      | _ => none) else none
    | _ => none
  | _ => dAdd x y
theorem ox_addU (M : AllS X.prog X.w X.K X.mg X.base "__add__" k 2 ms) (N : ∀ c mm, ms.lookup c = some mm → ClsF X.K X.mg c) (hr : Rb bb k X.A) (eg : g = ⟨X.K, X.mg⟩ := by rfl) : OpX X g (binaryOp .Add) (dAddU ms) := by
  intro pins s σ H x y u v Q I rx ry ⟨G, d, e, r, sg, rd, re, hF, q⟩
  by_cases ho : ∃ c fs, d = .obj c fs
  · obtain ⟨c, fs, rfl⟩ := ho
    obtain ⟨mm, hm, h2⟩ := Option.bind_eq_some_iff.mp (show (ms.lookup c).bind _ = some r from hF)
    split at h2
    rotate_left
    · cases h2
    rename_i c2 fs2
    split at h2
    rotate_left
    · cases h2
    rename_i hcc
    subst hcc
    split at h2
    rotate_left
    · cases h2
    rename_i d2 cs hr2
    cases h2
    obtain ⟨C, fa, hc, hs, hf, F⟩ := M c2 mm hm
    obtain ⟨C2, hc2, hI, _, _, _, hsf⟩ := N c2 mm hm
    have : C2 = C := by have := hc2.symm.trans hc; injection this with z; injection z
    subst this
    subst eg
    obtain ⟨a, ox, od, dx, fv, rfl, rfl, J, ea⟩ := ins_at I sg rd rx hc
    obtain ⟨a2, ox2, od2, _, _, rfl, rfl, J2, _⟩ := ins_at I sg re ry hc
    obtain ⟨m, hFr⟩ := I.fr
    refine PySem.W.binop_K (op := .Add) hFr I.ok.mod.kin J J2.type hsf hs hf ?_
    refine wpAny_mono (run_in (E' := X.xe) (vs := [.ref a, .ref a2]) F hr.rm I.env0 I (.cons rfl (.cons rfl .nil)) sg (.cons rd (.cons re .nil)) rfl hr2 q) (fun z s' hq => ?_) fun _ _ y => y
    obtain ⟨v, H', I', rz, hq⟩ := hq
    exact cmpBack_of rz ⟨v, H', I', rz, hq⟩
  · have : dAddU ms d e = dAdd d e := by
      cases d <;> first | rfl | exact absurd ⟨_, _, rfl⟩ ho
    rw [this] at hF
    exact ox_add (g := g) (by rw [eg]) pins s σ H x y u v Q I rx ry ⟨G, d, e, r, sg, rd, re, hF, q⟩
end
end Dx

set_option Elab.async false
set_option linter.all false
set_option maxRecDepth 100000
set_option maxHeartbeats 4000000
/-! the data layer: methods, properties of several classes; what is stuck -/
namespace Dx
open PySem PySem.Spec PyProof.Rows L2 Gd
/-! ### what is stuck -/
def sNo : SV := fun _ => .no
def eNo : EV := fun _ => .no
@[simp] theorem sNo_eq (ρ : Ev) : sNo ρ = .no := rfl
@[simp] theorem eNo_eq (ρ : Ev) : eNo ρ = .no := rfl
section
variable {X : Cx} {f : Fm} {W : WX}
theorem pxs_no {st : Stmt} : PXS X f W st sNo := ⟨fun pins s σ H Dd I ⟨_, _, _, q⟩ => q.elim⟩
theorem px_no {e : Expr} : PX X f W e eNo := ⟨fun pins s σ H Q I ⟨_, _, _, q⟩ => q.elim⟩
end
/-! ### promises -/
abbrev Fd := List D → FR
abbrev Md := List (Str × Fd)
/-- values alone -/
def spD (g : Gm) (m : Fd) : SpK := fun vs _ H Q E => ∃ G ds, Same G H ∧ RpL g G vs ds ∧ PostR g [] G H Q E (m ds)
section
variable {P : Program} {w : World} {K : PySem.W.Frag} {mg : Str → Option Value} {base : Heap} {b : Bool} {j k np : Nat} {f : Addr} {ks : List Str}
theorem FnG.sp {s1 s2 : SpK} (h : FnG P w K mg base b k f ks s1) (i : ∀ vs zs H Q E, s2 vs zs H Q E → s1 vs zs H Q E) : FnG P w K mg base b k f ks s2 :=
  fun A outer s H us ws vs zs Q E hr e0 r rz hl q => h A outer s H us ws vs zs Q E hr e0 r rz hl (i _ _ _ _ _ q)
theorem FnG.lv {s1 : SpK} (h : FnG P w K mg base b j f ks s1) (l : j ≤ k) : FnG P w K mg base b k f ks s1 :=
  fun A outer s H us ws vs zs Q E hr e0 r rz hl q => h A outer s H us ws vs zs Q E ⟨hr.rm.mono l, hr.gd⟩ e0 r rz hl q
theorem FnG.fl {s1 : SpK} (h : FnG P w K mg base false k f ks s1) : FnG P w K mg base b k f ks s1 :=
  fun A outer s H us ws vs zs Q E hr e0 r rz hl q => h A outer s H us ws vs zs Q E ⟨hr.rm, fun z => by cases z⟩ e0 r rz hl q
theorem fngD {m : Fn} (h : FnG P w K mg base b k f [] (fun vs _ => spF ⟨K, mg⟩ 0 np m vs)) (hl : ∀ cs ds, m cs ds ≠ .no → cs.length + ds.length = np) : FnG P w K mg base b k f [] (spD ⟨K, mg⟩ (m [])) :=
  h.sp fun vs zs H Q E ⟨G, ds, sg, r, post⟩ => by
    have hne : m [] ds ≠ .no := fun z => by rw [z] at post; exact post.elim
    have := hl _ _ hne
    exact ⟨by rw [r.len]; simpa using this, G, [], [], vs, ds, rfl, rfl, List.nodup_nil, sg, .nil, r, post⟩
theorem fngDK {m : FnK} (h : FnG P w K mg base b k f [] (spK ⟨K, mg⟩ m)) : FnG P w K mg base b k f [] (spD ⟨K, mg⟩ fun ds => m ds []) :=
  fun A outer s H us ws vs zs Q E hr e0 r rz hl ⟨G, ds, sg, rr, post⟩ => by
    cases zs with
    | cons _ _ => cases hl
    | nil => exact h A outer s H us ws vs [] Q E hr e0 r rz hl ⟨G, ds, [], sg, rr, .nil, post⟩
end
theorem call_endD {g : Gm} {G1 H1 : Hp} {f : Fm} {W : WX} {σ : L2.St} {ρ2 : Ev} {Q : VK} {r : FR} (hg : f.g = g) (fi : FI f G1 H1 σ ρ2)
    (q : PostX f W σ G1 (fun d G' H' => ∀ v, Rp f.g G' v d → Q v H') (match r with | .ok r _ => .ok r ρ2 | .er e _ => .er e ρ2 | _ => .no)) : PostR g [] G1 H1 Q (WE W σ) r := call_end hg fi q
/-! ### methods -/
def AllM (P : Program) (w : World) (K : PySem.W.Frag) (mg : Str → Option Value) (base : Heap) (m : Str) (b : Bool) (k : Nat) (ms : Md) : Prop :=
  ∀ c mm, ms.lookup c = some mm → ∃ C fa, mg c = some (.ref C) ∧ Cls K C ∧ Meth K C m fa ∧ FnG P w K mg base b k fa [] (spD ⟨K, mg⟩ mm)
@[simp] def eMethU (m : Str) (ms : Md) (ev : EV) (av : AV) : EV := fun ρ => (ev ρ).bind fun d ρ1 => match d with
  | .obj c fs => (match ms.lookup c with
    | some mm => if fs.lookup m = none then (av ρ1).bind fun ds ρ2 => (match mm (d :: ds) with
      | .ok r _ => .ok r ρ2
      | .er e _ => .er e ρ2
      | _ => .no) else .no
    | none => .no)
  | _ => .no
section
variable {X : Cx} {f : Fm} {W : WX} {b : Bool} {k : Nat} {m : Str} {ms : Md} {o e : Expr} {es : List Expr} {ev : EV} {av : AV} {apos pos p : Pos} {ta : TE} {t : TA} {E : L2.St → XK}
/-- what a receiver must be -/
def RecvM (X : Cx) (b : Bool) (k : Nat) (m : Str) (E : L2.St → XK) (x : V) (H1 : Hp) (Z : SpK → Prop) : Prop :=
  ∃ C fa sp a dx fs, Cls X.K C ∧ Meth X.K C m fa ∧ FnG X.prog X.w X.K X.mg X.base b k fa [] sp ∧ x = .ref a ∧ H1 a = some (.ins C dx fs) ∧ fs.lookup m = none ∧ Z sp
theorem pe_methU {pl : Sem Bool} (he : PE X o ta) (hr : Rb b k X.A) (hx : ∀ σ, PassesAt (L2.CX X.prog X.w) X σ (E σ)) (ha : PA X (e :: es) t)
    (hst : starEach (e :: es) X.env = (false, eval e X.env) :: starEach es X.env := by rfl) (hpl : (backTo pos (starEach es X.env)).any (·.1) = false := by rfl)
    (ht : eval (.Call (.Attribute o m apos) (e :: es) [] pos) X.env = (do
      let ov ← eval o X.env
      standAt apos.atName
      let (f, first) ← holding [ov] (getMethod ov m pl)
      callWith pos f first (backTo pos (starEach (e :: es) X.env)) (backToKw pos (keywordEach [] X.env))) := by rfl) :
    PE X (.Call (.Attribute o m apos) (e :: es) [] pos) (fun σ H Q => ta σ H fun x H1 => RecvM X b k m E x H1 fun sp => t σ H1 fun vs H2 => sp (x :: vs) [] H2 Q (E σ)) := by
  refine ⟨fun pins s σ H Q I h => ?_⟩
  refine PySem.W.methodCall_KW (pl := pl) (thn (he.run pins s σ H _ I h) fun u s1 ⟨x, H1, I1, rx, C, fa, sp, a, dx, fs, c, hm, F, ex, ea, l, q⟩ => ?_) ht
  subst ex
  obtain rfl : u = Value.ref a := rx
  refine getmeth_ok I1 ea c hm l ?_
  refine PySem.W.callWith_K (first := [.ref a]) (h₀ := X.base) I.ok.mod.kin hm.kp (thn (ha.run pos pins s1 σ H1 _ I1 q) fun us s2 ⟨vs, H2, I2, r, q2⟩ => ⟨I2.kIn, ?_⟩) hst hpl
  exact run_fng (ks := []) (ws := []) (zs := []) (us := .ref a :: us) (vs := .ref a :: vs) F hr (hx σ) I2 (.cons rfl r) .nil rfl q2
theorem pe_methU2 {pl : Sem Bool} (he : PE X o ta) (hr : Rb b k X.A) (hx : ∀ σ, PassesAt (L2.CX X.prog X.w) X σ (E σ)) (ha : PA X (e :: es) t)
    (hst : starEach (e :: es) X.env = (false, eval e X.env) :: starEach es X.env := by rfl) (hpl : (backTo pos (starEach es X.env)).any (·.1) = true := by rfl)
    (ht : eval (.Call (.Attribute o m apos) (e :: es) [] pos) X.env = (do
      let ov ← eval o X.env
      standAt apos.atName
      let (f, first) ← holding [ov] (getMethod ov m pl)
      callWith pos f first (backTo pos (starEach (e :: es) X.env)) (backToKw pos (keywordEach [] X.env))) := by rfl) :
    PE X (.Call (.Attribute o m apos) (e :: es) [] pos) (fun σ H Q => ta σ H fun x H1 => RecvM X b k m E x H1 fun sp => t σ H1 fun vs H2 => sp (x :: vs) [] H2 Q (E σ)) := by
  refine ⟨fun pins s σ H Q I h => ?_⟩
  refine PySem.W.methodCall_KW (pl := pl) (thn (he.run pins s σ H _ I h) fun u s1 ⟨x, H1, I1, rx, C, fa, sp, a, dx, fs, c, hm, F, ex, ea, l, q⟩ => ?_) ht
  subst ex
  obtain rfl : u = Value.ref a := rx
  refine getmeth_ok I1 ea c hm l ?_
  refine PySem.W.callWith_S2 (first := [.ref a]) (h₀ := X.base) I.ok.mod.kin hm.kp (thn (ha.run pos pins s1 σ H1 _ I1 q) fun us s2 ⟨vs, H2, I2, r, q2⟩ => ⟨I2.kIn, ?_⟩) hst hpl
  exact run_fng (ks := []) (ws := []) (zs := []) (us := .ref a :: us) (vs := .ref a :: vs) F hr (hx σ) I2 (.cons rfl r) .nil rfl q2
theorem pe_methU0 {pl : Sem Bool} (he : PE X o ta) (hr : Rb b k X.A) (hx : ∀ σ, PassesAt (L2.CX X.prog X.w) X σ (E σ))
    (ht : eval (.Call (.Attribute o m apos) [] [] pos) X.env = (do
      let ov ← eval o X.env
      standAt apos.atName
      let (f, first) ← holding [ov] (getMethod ov m pl)
      callWith pos f first (backTo pos (starEach [] X.env)) (backToKw pos (keywordEach [] X.env))) := by rfl) :
    PE X (.Call (.Attribute o m apos) [] [] pos) (fun σ H Q => ta σ H fun x H1 => RecvM X b k m E x H1 fun sp => sp [x] [] H1 Q (E σ)) := by
  refine ⟨fun pins s σ H Q I h => ?_⟩
  refine PySem.W.methodCall_KW (pl := pl) (thn (he.run pins s σ H _ I h) fun u s1 ⟨x, H1, I1, rx, C, fa, sp, a, dx, fs, c, hm, F, ex, ea, l, q⟩ => ?_) ht
  subst ex
  obtain rfl : u = Value.ref a := rx
  refine getmeth_ok I1 ea c hm l ?_
  exact PySem.W.callWith_K0 (first := [.ref a]) I1.kIn hm.kp (run_fng (ks := []) (ws := []) (zs := []) (us := [.ref a]) (vs := [.ref a]) F hr (hx σ) I1 (.cons rfl .nil) .nil rfl q)
/-- o.m(*e) -/
theorem pe_methU1 {pl : Sem Bool} {te : TE} (he : PE X o ta) (hr : Rb b k X.A) (hx : ∀ σ, PassesAt (L2.CX X.prog X.w) X σ (E σ)) (ha : PE X e te)
    (hst : starEach [.Starred e p] X.env = [(true, eval e X.env)] := by rfl)
    (ht : eval (.Call (.Attribute o m apos) [.Starred e p] [] pos) X.env = (do
      let ov ← eval o X.env
      standAt apos.atName
      let (f, first) ← holding [ov] (getMethod ov m pl)
      callWith pos f first (backTo pos (starEach [.Starred e p] X.env)) (backToKw pos (keywordEach [] X.env))) := by rfl) :
    PE X (.Call (.Attribute o m apos) [.Starred e p] [] pos) (fun σ H Q => ta σ H fun x H1 => RecvM X b k m E x H1 fun sp => te σ H1 fun y H2 => ∃ q xs, y = .ref q ∧ (SqT X.K H2 q xs ∨ SqL X.K H2 q xs) ∧ sp (x :: xs) [] H2 Q (E σ)) := by
  refine ⟨fun pins s σ H Q I h => ?_⟩
  refine PySem.W.methodCall_KW (pl := pl) (thn (he.run pins s σ H _ I h) fun u s1 ⟨x, H1, I1, rx, C, fa, sp, a, dx, fs, c, hm, F, ex, ea, l, q⟩ => ?_) ht
  subst ex
  obtain rfl : u = Value.ref a := rx
  refine getmeth_ok I1 ea c hm l ?_
  refine PySem.W.callWith_S (first := [.ref a]) (h₀ := X.base) I.ok.mod.kin hm.kp (thn (ha.run pins s1 σ H1 _ I1 q) fun v s2 ⟨y, H2, I2, ry, qa, xs, ey, hxs, q2⟩ => ?_) hst
  subst ey
  obtain rfl : v = Value.ref qa := ry
  exact StX.star_any I2 hxs fun us s3 I3 rv => ⟨I3.kIn, run_fng (ks := []) (ws := []) (zs := []) (us := .ref a :: us) (vs := .ref a :: xs) F hr (hx σ) I3 (.cons rfl rv) .nil rfl q2⟩
/-- a tuple's or list's items -/
def itemsS : D → Option (List D)
  | .tup xs => some xs
  | .lst xs => some xs
  | _ => none
@[simp] theorem itemsS_tup (xs : List D) : itemsS (.tup xs) = some xs := rfl
@[simp] theorem itemsS_lst (xs : List D) : itemsS (.lst xs) = some xs := rfl
theorem items_rp {g : Gm} {G H : Hp} {v : V} {d : D} {xs : List D} (r : Rp g G v d) (s : Same G H) (h : itemsS d = some xs) : ∃ q vs, v = .ref q ∧ (SqT g.K H q vs ∨ SqL g.K H q vs) ∧ RpL g G vs xs := by
  cases r <;> simp only [itemsS, Option.some.injEq, reduceCtorEq] at h
  · rename_i a vs ds sq n rr
    subst h
    exact ⟨a, vs, rfl, .inl (sqTS s sq), rr⟩
  · rename_i a vs ds sq n rr
    subst h
    exact ⟨a, vs, rfl, .inr (.inl (.inl (s _ _ sq))), rr⟩
theorem recv_of {G H : Hp} {v : V} {c : Str} {fs : List (Str × D)} {mm : Fd} (M : AllM X.prog X.w X.K X.mg X.base m b k ms) (eg : f.g = ⟨X.K, X.mg⟩) (sg : Same G H) (rv : Rp f.g G v (.obj c fs)) (hl : ms.lookup c = some mm) (hf : fs.lookup m = none) {E : L2.St → XK} {Z : SpK → Prop}
    (z : Z (spD ⟨X.K, X.mg⟩ mm)) : RecvM X b k m E v H Z := by
  obtain ⟨C, fa, hm, hc, hM, F⟩ := M c mm hl
  cases hrv : rv
  rename_i a C' dx fv ea od mg' ek rr
  rw [eg] at mg'
  have eC : C' = C := by have := mg'.symm.trans hm; injection this with z; injection z
  subst eC
  exact ⟨C', fa, _, a, dx, fv, hc, hM, F, rfl, sg _ _ ea, lkF_none ek hf, z⟩
theorem px_methU {pl : Sem Bool} (M : AllM X.prog X.w X.K X.mg X.base m b k ms) (hr : Rb b k X.A) (ho : PX X f W o ev) (ha : PXA X f W (e :: es) av) (tk : Takes X W) (eg : f.g = ⟨X.K, X.mg⟩ := by rfl)
    (hst : starEach (e :: es) X.env = (false, eval e X.env) :: starEach es X.env := by rfl) (hpl : (backTo pos (starEach es X.env)).any (·.1) = false := by rfl)
    (ht : eval (.Call (.Attribute o m apos) (e :: es) [] pos) X.env = (do
      let ov ← eval o X.env
      standAt apos.atName
      let (f, first) ← holding [ov] (getMethod ov m pl)
      callWith pos f first (backTo pos (starEach (e :: es) X.env)) (backToKw pos (keywordEach [] X.env))) := by rfl) :
    PX X f W (.Call (.Attribute o m apos) (e :: es) [] pos) (eMethU m ms ev av) := by
  refine PE.imp (pe_methU (pl := pl) ho hr (passAt tk) ha hst hpl ht) fun σ H Q ⟨G, ρ, fi, q⟩ => ⟨G, ρ, fi, PostX.bind q fun d ρ1 G1 H1 s1 fi1 q1 v rv => ?_⟩
  cases d <;> first | exact q1.elim | skip
  rename_i c fs
  simp only at q1
  cases hl : ms.lookup c with
  | none => rw [hl] at q1; exact q1.elim
  | some mm =>
    rw [hl] at q1
    simp only at q1
    split at q1
    rotate_left
    · exact q1.elim
    rename_i hf
    refine recv_of M eg fi1.gh rv hl hf ⟨G1, ρ1, fi1, PostX.bind q1 fun ds ρ2 G2 H2 s2 fi2 q2 vs rvs => ?_⟩
    exact ⟨G2, .obj c fs :: ds, fi2.gh, by rw [← eg]; exact .cons (rv.up s2) rvs, call_end eg fi2 q2⟩
theorem px_methU2 {pl : Sem Bool} (M : AllM X.prog X.w X.K X.mg X.base m b k ms) (hr : Rb b k X.A) (ho : PX X f W o ev) (ha : PXA X f W (e :: es) av) (tk : Takes X W) (eg : f.g = ⟨X.K, X.mg⟩ := by rfl)
    (hst : starEach (e :: es) X.env = (false, eval e X.env) :: starEach es X.env := by rfl) (hpl : (backTo pos (starEach es X.env)).any (·.1) = true := by rfl)
    (ht : eval (.Call (.Attribute o m apos) (e :: es) [] pos) X.env = (do
      let ov ← eval o X.env
      standAt apos.atName
      let (f, first) ← holding [ov] (getMethod ov m pl)
      callWith pos f first (backTo pos (starEach (e :: es) X.env)) (backToKw pos (keywordEach [] X.env))) := by rfl) :
    PX X f W (.Call (.Attribute o m apos) (e :: es) [] pos) (eMethU m ms ev av) := by
  refine PE.imp (pe_methU2 (pl := pl) ho hr (passAt tk) ha hst hpl ht) fun σ H Q ⟨G, ρ, fi, q⟩ => ⟨G, ρ, fi, PostX.bind q fun d ρ1 G1 H1 s1 fi1 q1 v rv => ?_⟩
  cases d <;> first | exact q1.elim | skip
  rename_i c fs
  simp only at q1
  cases hl : ms.lookup c with
  | none => rw [hl] at q1; exact q1.elim
  | some mm =>
    rw [hl] at q1
    simp only at q1
    split at q1
    rotate_left
    · exact q1.elim
    rename_i hf
    refine recv_of M eg fi1.gh rv hl hf ⟨G1, ρ1, fi1, PostX.bind q1 fun ds ρ2 G2 H2 s2 fi2 q2 vs rvs => ?_⟩
    exact ⟨G2, .obj c fs :: ds, fi2.gh, by rw [← eg]; exact .cons (rv.up s2) rvs, call_end eg fi2 q2⟩
theorem px_methU0 {pl : Sem Bool} (M : AllM X.prog X.w X.K X.mg X.base m b k ms) (hr : Rb b k X.A) (ho : PX X f W o ev) (tk : Takes X W) (eg : f.g = ⟨X.K, X.mg⟩ := by rfl)
    (ht : eval (.Call (.Attribute o m apos) [] [] pos) X.env = (do
      let ov ← eval o X.env
      standAt apos.atName
      let (f, first) ← holding [ov] (getMethod ov m pl)
      callWith pos f first (backTo pos (starEach [] X.env)) (backToKw pos (keywordEach [] X.env))) := by rfl) :
    PX X f W (.Call (.Attribute o m apos) [] [] pos) (eMethU m ms ev aNil) := by
  refine PE.imp (pe_methU0 (pl := pl) ho hr (passAt tk) ht) fun σ H Q ⟨G, ρ, fi, q⟩ => ⟨G, ρ, fi, PostX.bind q fun d ρ1 G1 H1 s1 fi1 q1 v rv => ?_⟩
  cases d <;> first | exact q1.elim | skip
  rename_i c fs
  simp only at q1
  cases hl : ms.lookup c with
  | none => rw [hl] at q1; exact q1.elim
  | some mm =>
    rw [hl] at q1
    simp only at q1
    split at q1
    rotate_left
    · exact q1.elim
    rename_i hf
    simp only [aNil, Re.bind] at q1
    exact recv_of M eg fi1.gh rv hl hf ⟨G1, [.obj c fs], fi1.gh, by rw [← eg]; exact .cons rv .nil, call_end eg fi1 q1⟩
/-- *e -/
@[simp] def aStar (e : EV) (r : AV) : AV := fun ρ => (e ρ).bind fun d ρ1 => (match itemsS d with
  | some xs => (r ρ1).bind fun ds ρ2 => .ok (xs ++ ds) ρ2
  | none => .no)
theorem px_methU1 {pl : Sem Bool} {ex : EV} (M : AllM X.prog X.w X.K X.mg X.base m b k ms) (hr : Rb b k X.A) (ho : PX X f W o ev) (ha : PX X f W e ex) (tk : Takes X W) (eg : f.g = ⟨X.K, X.mg⟩ := by rfl)
    (hst : starEach [.Starred e p] X.env = [(true, eval e X.env)] := by rfl)
    (ht : eval (.Call (.Attribute o m apos) [.Starred e p] [] pos) X.env = (do
      let ov ← eval o X.env
      standAt apos.atName
      let (f, first) ← holding [ov] (getMethod ov m pl)
      callWith pos f first (backTo pos (starEach [.Starred e p] X.env)) (backToKw pos (keywordEach [] X.env))) := by rfl) :
    PX X f W (.Call (.Attribute o m apos) [.Starred e p] [] pos) (eMethU m ms ev (aStar ex aNil)) := by
  refine PE.imp (pe_methU1 (pl := pl) ho hr (passAt tk) ha hst ht) fun σ H Q ⟨G, ρ, fi, q⟩ => ⟨G, ρ, fi, PostX.bind q fun d ρ1 G1 H1 s1 fi1 q1 v rv => ?_⟩
  cases d <;> first | exact q1.elim | skip
  rename_i c fs
  simp only at q1
  cases hl : ms.lookup c with
  | none => rw [hl] at q1; exact q1.elim
  | some mm =>
    rw [hl] at q1
    simp only at q1
    split at q1
    rotate_left
    · exact q1.elim
    rename_i hf
    have q1' : PostX f W σ G1 (fun d G' H' => ∀ v, Rp f.g G' v d → Q v H') ((ex ρ1).bind fun d' ρ2 => (match itemsS d' with
      | some xs => (match mm (.obj c fs :: xs) with
        | .ok r _ => .ok r ρ2
        | .er e _ => .er e ρ2
        | _ => .no)
      | none => .no)) := by
      simp only [aStar, aNil] at q1
      cases hx : ex ρ1 with
      | no => rw [hx] at q1; exact q1
      | er e ρ2 => rw [hx] at q1; exact q1
      | ok d' ρ2 =>
        rw [hx] at q1
        simp only [Re.bind] at q1 ⊢
        cases hi : itemsS d' with
        | none => rw [hi] at q1; exact q1
        | some xs => rw [hi] at q1; simpa using q1
    refine recv_of M eg fi1.gh rv hl hf ⟨G1, ρ1, fi1, PostX.bind q1' fun d' ρ2 G2 H2 s2 fi2 q2 y ry => ?_⟩
    cases hi : itemsS d' with
    | none => rw [hi] at q2; exact q2.elim
    | some xs =>
      rw [hi] at q2
      obtain ⟨qa, vs, rfl, sq, rvs⟩ := items_rp ry fi2.gh hi
      exact ⟨qa, vs, rfl, by rw [eg] at sq; exact sq, G2, .obj c fs :: xs, fi2.gh, by rw [← eg]; exact .cons (rv.up s2) rvs, call_end eg fi2 q2⟩
theorem pxa_star (h : PX X f W e ev) (hr : PXA X f W es av) (hs : starEach (.Starred e p :: es) X.env = (true, eval e X.env) :: starEach es X.env := by rfl) (hk : X.K = f.g.K := by rfl) : PXA X f W (.Starred e p :: es) (aStar ev av) :=
  PA.imp (StX.pa_star h hr hs) fun σ H Q ⟨G, ρ, fi, q⟩ => ⟨G, ρ, fi, PostX.bind q fun d ρ1 G1 H1 s1 fi1 q1 v rv => by
    cases hi : itemsS d with
    | none => rw [hi] at q1; exact q1.elim
    | some xs =>
      rw [hi] at q1
      obtain ⟨qa, vs, rfl, sq, rvs⟩ := items_rp rv fi1.gh hi
      exact ⟨qa, vs, rfl, by rw [hk]; exact sq, G1, ρ1, fi1, PostX.bind q1 fun ds ρ2 G2 H2 s2 fi2 q2 ws rws => q2 G2 H2 same_rfl fi2 _ ((rvs.up s2).app rws)⟩⟩
end
/-! ### properties -/
def AllP (P : Program) (w : World) (K : PySem.W.Frag) (mg : Str → Option Value) (base : Heap) (x : Str) (k : Nat) (ms : Md) : Prop :=
  ∀ c mm, ms.lookup c = some mm → ∃ C p fa, mg c = some (.ref C) ∧ Cls K C ∧ PropOf K C x p fa ∧ FnG P w K mg base false k fa [] (spD ⟨K, mg⟩ mm)
@[simp] def ePropU (ms : Md) (ev : EV) : EV := fun ρ => (ev ρ).bind fun d ρ1 => match d with
  | .obj c _ => (match ms.lookup c with
    | some mm => (match mm [d] with
      | .ok r _ => .ok r ρ1
      | _ => .no)
    | none => .no)
  | _ => .no
section
variable {X : Cx} {f : Fm} {W : WX} {b : Bool} {k : Nat} {x : Str} {ms : Md} {e : Expr} {ev : EV} {pos : Pos} {ta : TE}
theorem pe_propU (he : PE X e ta) (hr : Rb b (k + 1) X.A)
    (hab : attributeBase e x X.env (eval e X.env) = eval e X.env := by rfl) : PE X (.Attribute e x pos) (fun σ H Q => ta σ H fun v H1 => ∃ C p g sp a dx fs, Cls X.K C ∧ PropOf X.K C x p g ∧ FnG X.prog X.w X.K X.mg X.base false k g [] sp ∧ v = .ref a ∧ H1 a = some (.ins C dx fs) ∧ sp [.ref a] [] H1 Q (fun _ _ _ => False)) := by
  refine ⟨fun pins s σ H Q I h => ?_⟩
  refine attr_of hab (thn (he.run pins s σ H _ I h) fun u s1 ⟨x, H1, I1, rx, C, p, g, sp, a, dx, fs, c, hp, F, ex, ea, q⟩ => ?_)
  subst ex
  obtain rfl : u = Value.ref a := rx
  exact getprop_F I1 ea c hp F hr q
theorem px_propU (M : AllP X.prog X.w X.K X.mg X.base x k ms) (hr : Rb b (k + 1) X.A) (ho : PX X f W e ev) (eg : f.g = ⟨X.K, X.mg⟩ := by rfl) (hab : attributeBase e x X.env (eval e X.env) = eval e X.env := by rfl) :
    PX X f W (.Attribute e x pos) (ePropU ms ev) := by
  refine PE.imp (pe_propU (k := k) ho hr hab) fun σ H Q ⟨G, ρ, fi, q⟩ => ⟨G, ρ, fi, PostX.bind q fun d ρ1 G1 H1 s1 fi1 q1 v rv => ?_⟩
  cases d <;> first | exact q1.elim | skip
  rename_i c fs
  simp only at q1
  cases hl : ms.lookup c with
  | none => rw [hl] at q1; exact q1.elim
  | some mm =>
    rw [hl] at q1
    simp only at q1
    obtain ⟨C, p, fa, hm, hc, hM, F⟩ := M c mm hl
    cases hrv : rv
    rename_i a C' dx fv ea od mg' ek rr
    rw [eg] at mg'
    have eC : C' = C := by have := mg'.symm.trans hm; injection this with z; injection z
    subst eC
    refine ⟨C', p, fa, _, a, dx, fv, hc, hM, F, rfl, fi1.gh _ _ ea, G1, [.obj c fs], fi1.gh, by rw [← eg]; exact .cons rv .nil, ?_⟩
    have ext : ∀ {G' H' : Hp}, Grow [] G1 H1 G' H' → Same G' H' → Ext G1 H1 G' H' := fun gr sg => ⟨gr.g, fun b o e => gr.h b o (by simp) e, sg, gr.f⟩
    cases hr2 : mm [.obj c fs] with
    | ok d cs =>
      rw [hr2] at q1
      exact fun v G' H' gr sg _ rp => q1 G' H' gr.g (fi1.ext (ext gr sg)) v (by rw [eg]; exact rp)
    | er er cs => rw [hr2] at q1; exact q1.elim
    | okc c cs => rw [hr2] at q1; exact q1.elim
    | no => rw [hr2] at q1; exact q1.elim
end
end Dx

set_option Elab.async false
set_option linter.all false
set_option maxRecDepth 100000
set_option maxHeartbeats 4000000
/-! the data layer: instances made by any arguments, classes as values, classmethods, constants of classes -/
namespace Dx
open PySem PySem.Spec PyProof.Rows L2 Gd
/-- what becomes of a call's arguments -/
def CallA (X : Cx) (f : Fm) (W : WX) (pos : Pos) (es : List Expr) (av : AV) : Prop := ∀ (fv : Value) (first : List Value), PySem.W.keepIn X.K fv = true → ∀ (pins : List (Addr × Obj)) (s : Shared) (σ : L2.St) (H : Hp) (Q : VK), Inv X pins σ H s →
  tXA f W av σ H (fun vs H1 => ∀ us s1, Inv X pins σ H1 s1 → Vals vs us → wpAny (model X.prog X.w) X.A (call fv (first ++ us)) (EP X pins σ Q) X.xe s1) →
  wpAny (model X.prog X.w) X.A (callWith pos fv first (backTo pos (starEach es X.env)) []) (EP X pins σ Q) X.xe s
section
variable {X : Cx} {f : Fm} {W : WX} {pos p : Pos} {e : Expr} {es : List Expr} {ev : EV} {av : AV}
theorem calla_nil : CallA X f W pos [] aNil := fun fv first hk pins s σ H Q I ⟨G, ρ, fi, q⟩ =>
  PySem.W.callWith_K0 I.kIn hk (q G H same_rfl fi [] .nil [] s I .nil)
theorem calla (ha : PXA X f W (e :: es) av) (hst : starEach (e :: es) X.env = (false, eval e X.env) :: starEach es X.env := by rfl) (hpl : (backTo pos (starEach es X.env)).any (·.1) = false := by rfl) : CallA X f W pos (e :: es) av :=
  fun fv first hk pins s σ H Q I h => PySem.W.callWith_K (h₀ := X.base) I.ok.mod.kin hk (thn (ha.run pos pins s σ H _ I h) fun us s1 ⟨vs, H1, I1, r, q⟩ => ⟨I1.kIn, q us s1 I1 r⟩) hst hpl
theorem calla2 (ha : PXA X f W (e :: es) av) (hst : starEach (e :: es) X.env = (false, eval e X.env) :: starEach es X.env := by rfl) (hpl : (backTo pos (starEach es X.env)).any (·.1) = true := by rfl) : CallA X f W pos (e :: es) av :=
  fun fv first hk pins s σ H Q I h => PySem.W.callWith_S2 (h₀ := X.base) I.ok.mod.kin hk (thn (ha.run pos pins s σ H _ I h) fun us s1 ⟨vs, H1, I1, r, q⟩ => ⟨I1.kIn, q us s1 I1 r⟩) hst hpl
theorem calla1 (ha : PX X f W e ev) (hst : starEach [.Starred e p] X.env = [(true, eval e X.env)] := by rfl) (hk : X.K = f.g.K := by rfl) : CallA X f W pos [.Starred e p] (aStar ev aNil) := by
  intro fv first hkp pins s σ H Q I ⟨G, ρ, fi, q⟩
  refine PySem.W.callWith_S (h₀ := X.base) I.ok.mod.kin hkp (thn (ha.run pins s σ H (fun y H2 => ∃ qa xs, y = V.ref qa ∧ (SqT X.K H2 qa xs ∨ SqL X.K H2 qa xs) ∧ ∀ us s1, Inv X pins σ H2 s1 → Vals xs us → wpAny (model X.prog X.w) X.A (call fv (first ++ us)) (EP X pins σ Q) X.xe s1) I ⟨G, ρ, fi, ?_⟩) fun v s2 ⟨y, H2, I2, ry, qa, xs, ey, hxs, q2⟩ => ?_) hst
  · cases hx : ev ρ with
    | no => simp only [aStar, hx, Re.bind] at q; exact q.elim
    | er e ρ2 => simp only [aStar, hx, Re.bind] at q; exact q
    | ok d' ρ2 =>
      intro G2 H2 s2 fi2 v rv
      simp only [aStar, hx, Re.bind, aNil] at q
      cases hi : itemsS d' with
      | none => simp only [hi] at q; exact q.elim
      | some xs =>
        simp only [hi, List.append_nil] at q
        obtain ⟨qa, vs, rfl, sq, rvs⟩ := items_rp rv fi2.gh hi
        exact ⟨qa, vs, rfl, by rw [hk]; exact sq, q G2 H2 s2 fi2 vs rvs⟩
  · subst ey
    obtain rfl : v = Value.ref qa := ry
    exact StX.star_any I2 hxs fun us s3 I3 rv => ⟨I3.kIn, q2 us s3 I3 rv⟩
end
/-! ### instances made -/
def AllI (P : Program) (w : World) (K : PySem.W.Frag) (mg : Str → Option Value) (base : Heap) (k : Nat) (ms : Ms) : Prop := ∀ c mm, ms.lookup c = some mm → CalI P w K mg base c k mm
@[simp] def cNewV (i : Nat) (ms : Ms) (av : AV) : CV := fun ρ => match ρ[i]? with
  | some (.dat (.cls c)) => (match ms.lookup c with
    | some mm => cNew c mm av ρ
    | none => .no)
  | _ => .no
section
variable {X : Cx} {f : Fm} {W : WX} {b : Bool} {k i : Nat} {c y : Str} {mm : Fn} {ms : Ms} {es : List Expr} {av : AV} {p pos : Pos}
theorem new_run {pins : List (Addr × Obj)} {σ : L2.St} {G H : Hp} {ρ : Ev} {s : Shared} {Q : VK} {C fi : Addr} (hm : X.mg c = some (.ref C)) (hM : Mk X.K C fi) (F : FnG X.prog X.w X.K X.mg X.base false k fi [] (spI ⟨X.K, X.mg⟩ mm)) (hr : Rb b (k + 1) X.A) (ha : CallA X f W pos es av) (tk : Takes X W)
    (eg : f.g = ⟨X.K, X.mg⟩) (I : Inv X pins σ H s) (fI : FI f G H σ ρ) (q : PostF f W σ G Q (cNew c mm av ρ)) : wpAny (model X.prog X.w) X.A (callWith pos (.ref C) [] (backTo pos (starEach es X.env)) []) (EP X pins σ Q) X.xe s := by
  refine ha (.ref C) [] hM.kp pins s σ H Q I ⟨G, ρ, fI, PostF.bindX q fun ds ρ1 G1 H1 s1 fi1 q1 vs rvs us s2 I2 r => ?_⟩
  refine run_makeF hM F hr (passAt tk σ) I2 r fun y dx hy hd hne => ?_
  obtain ⟨a1, a2, a3, a4⟩ := new_end (by rw [eg]; exact hm) fi1 hy hd hne q1
  rw [eg] at a3 a4 rvs
  exact ⟨_, y, _, vs, ds, rfl, a1, a3, rvs.up a2, a4⟩
theorem pxf_newA (M : CalI X.prog X.w X.K X.mg X.base c k mm) (hr : Rb b (k + 1) X.A) (ha : CallA X f W pos es av) (tk : Takes X W) (eg : f.g = ⟨X.K, X.mg⟩ := by rfl) (hg : Gl X c := by rfl) (hdb : (c == ("__debug__" : Str)) = false := by decide) :
    PXF X f W (.Call (.Name c p) es [] pos) (cNew c mm av) := by
  obtain ⟨C, fi, hm, hM, F⟩ := M
  refine ⟨fun pins s σ H Q I ⟨G, ρ, fI, q⟩ => ?_⟩
  exact wpAny_Call_Name_kw (ld_glob I hg hm (new_run hm hM F hr ha tk eg I fI q) hdb)
theorem pxf_newV (M : AllI X.prog X.w X.K X.mg X.base k ms) (hr : Rb b (k + 1) X.A) (ha : CallA X f W pos es av) (tk : Takes X W) (hN : X.N[i]? = some y) (vis : Vis X.env.scope y := by first | exact Or.inl rfl | exact Or.inr (Or.inl rfl) | exact Or.inr (Or.inr rfl)) (eg : f.g = ⟨X.K, X.mg⟩ := by rfl)
    (hdb : (y == ("__debug__" : Str)) = false := by decide) (hcd : (y == ("__classdict__" : Str)) = false := by decide) : PXF X f W (.Call (.Name y p) es [] pos) (cNewV i ms av) := by
  refine ⟨fun pins s σ H Q I ⟨G, ρ, fI, q⟩ => ?_⟩
  unfold cNewV at q
  split at q
  rotate_left
  · exact q.elim
  rename_i c hc
  split at q
  rotate_left
  · exact q.elim
  rename_i mm hl
  obtain ⟨C, fi, hm, hM, F⟩ := M c mm hl
  obtain ⟨v, hv, rv⟩ := fI.sl i _ hc
  have ev : v = .ref C := by
    cases rv
    rename_i C' mg'
    rw [eg] at mg'
    have := mg'.symm.trans hm; injection this with z; injection z with z
    rw [z]
  subst ev
  refine wpAny_Call_Name_kw (thn ((pe_var (pos := p) hN vis hdb hcd).run pins s σ H (fun v H1 => v = .ref C ∧ H1 = H) I ⟨.ref C, hv, rfl, rfl⟩) fun u s1 ⟨v, H1, I1, r1, q1⟩ => ?_)
  obtain ⟨rfl, rfl⟩ := q1
  cases r1
  exact new_run hm hM F hr ha tk eg I1 fI q
end
/-! ### classmethods -/
def CalC (P : Program) (w : World) (K : PySem.W.Frag) (mg : Str → Option Value) (base : Heap) (c m : Str) (b : Bool) (k : Nat) (mm : Fd) : Prop :=
  ∃ C mc p g, mg c = some (.ref C) ∧ ClX.CRead K C mc ∧ ClX.CMet K C mc m p g ∧ FnG P w K mg base b k g [] (spD ⟨K, mg⟩ mm)
@[simp] def eCMeth (c : Str) (mm : Fd) (av : AV) : EV := fun ρ => (av ρ).bind fun ds ρ1 => match mm (.cls c :: ds) with
  | .ok r _ => .ok r ρ1
  | .er e _ => .er e ρ1
  | _ => .no
section
variable {X : Cx} {f : Fm} {W : WX} {b : Bool} {k : Nat} {c m : Str} {mm : Fd} {e : Expr} {es : List Expr} {av : AV} {apos pos p : Pos}
theorem kd_cls {g : Gm} {C : Addr} (h : g.mg c = some (.ref C)) : Kd g c (.cls c) := ⟨.ref C, .ref C, h, rfl, fun _ => .cls h⟩
theorem px_cmeth {pl : Sem Bool} (M : CalC X.prog X.w X.K X.mg X.base c m b k mm) (hr : Rb b k X.A) (ha : PXA X f W (e :: es) av) (tk : Takes X W) (eg : f.g = ⟨X.K, X.mg⟩ := by rfl) (hg : Gl X c := by rfl) (hdb : (c == ("__debug__" : Str)) = false := by decide)
    (hst : starEach (e :: es) X.env = (false, eval e X.env) :: starEach es X.env := by rfl) (hpl : (backTo pos (starEach es X.env)).any (·.1) = false := by rfl)
    (ht : eval (.Call (.Attribute (.Name c p) m apos) (e :: es) [] pos) X.env = (do
      let ov ← eval (.Name c p) X.env
      standAt apos.atName
      let (f, first) ← holding [ov] (getMethod ov m pl)
      callWith pos f first (backTo pos (starEach (e :: es) X.env)) (backToKw pos (keywordEach [] X.env))) := by rfl) :
    PX X f W (.Call (.Attribute (.Name c p) m apos) (e :: es) [] pos) (eCMeth c mm av) := by
  obtain ⟨C, mc, pa, g, hm, rd, cm, F⟩ := M
  refine ⟨fun pins s σ H Q I ⟨G, ρ, fi, q⟩ => ?_⟩
  refine PySem.W.methodCall_KW (pl := pl) (ld_glob I hg hm ?_ hdb) ht
  refine ClX.getmethcm_ok I rd cm fun s2 I2 => ?_
  refine ClX.callwith_cm I2 (ClX.base_none I (Nat.le_refl _)) cm.fi (thn (ha.run pos _ s2 σ H (fun vs H1 => spD ⟨X.K, X.mg⟩ mm (.ref C :: vs) [] H1 Q (WE W σ)) I2 ⟨G, ρ, fi, PostX.bind q fun ds ρ1 G1 H1 s1 fi1 q1 vs rvs => ?_⟩) fun us s3 ⟨vs, H2, I3, rv, q2⟩ => ⟨⟨ClX.pin_at I3, I3.kIn⟩, ?_⟩) hst hpl
  · exact ⟨G1, .cls c :: ds, fi1.gh, .cons (.cls hm) (by rw [← eg]; exact rvs), call_end eg fi1 q1⟩
  · have z : wpAny (model X.prog X.w) X.A (call (.ref s.heap.objs.size) us) (EP X ((s.heap.objs.size, PySem.W.methodObj (.ref g) (.ref C)) :: pins) σ Q) X.xe s3 := by
      refine wpAny_call (PySem.W.method_call (ClX.pin_at I3) (codeAny_mono (F X.A X.stack s3 H2 (.ref C :: us) [] (.ref C :: vs) [] Q (WE W σ) hr I3.env0 (.cons rfl rv) .nil rfl q2) fun r s' hq => ?_))
      cases r with
      | error e => exact passAt tk σ _ H2 s3 e s' I3 hq
      | ok fl =>
        cases fl with
        | ret u => exact I3.after hq
        | next => exact False.elim hq
        | brk => exact False.elim hq
        | cont => exact False.elim hq
    exact thn z fun _ _ y => ClX.unpinE y
end
/-! ### constants of classes -/
def CVs (K : PySem.W.Frag) (mg : Str → Option Value) (c x : Str) (d : D) : Prop := ∃ C mc v u, mg c = some (.ref C) ∧ ClX.CRead K C mc ∧ ClX.CVal K C mc x v u ∧ ∀ G, Rp ⟨K, mg⟩ G v d
section
variable {X : Cx} {f : Fm} {W : WX} {c x : Str} {d : D} {p pos : Pos}
theorem px_cval (M : CVs X.K X.mg c x d) (eg : f.g = ⟨X.K, X.mg⟩ := by rfl) (hg : Gl X c := by rfl) (hdb : (c == ("__debug__" : Str)) = false := by decide) (hb : attributeBase (.Name c p) x X.env (eval (.Name c p) X.env) = eval (.Name c p) X.env := by rfl) :
    PX X f W (.Attribute (.Name c p) x pos) (eC d) := by
  obtain ⟨C, mc, v, u, hm, rd, cv, rp⟩ := M
  have k : Kd f.g c (.cls c) := by rw [eg]; exact kd_cls hm
  have hk : PX X f W (.Name c p) (eC (.cls c)) := px_k k (by rw [eg]) hg hdb
  refine PE.imp (ClX.pe_cval hk hb) fun σ H Q ⟨G, ρ, fi, q⟩ => ⟨G, ρ, fi, fun G1 H1 s1 fi1 w rw' => ?_⟩
  cases rw'
  rename_i C' mg'
  rw [eg] at mg'
  have eC : C' = C := by have := mg'.symm.trans hm; injection this with z; injection z
  subst eC
  exact ⟨C', mc, v, u, rfl, rd, cv, q G1 H1 s1 fi1 v (by rw [eg]; exact rp G1)⟩
end
/-! ### gcd -/
def fGcd : List D → Option D
  | [.int a, .int b] => some (.int ((Nat.gcd a.natAbs b.natAbs : Nat) : Int))
  | _ => none
section
variable {X : Cx} {f : Fm} {W : WX} {x : Str} {e : Expr} {es : List Expr} {av : AV} {p pos : Pos} {g : Gm} {id : String} {F : List D → Option D}
theorem cx_gcd : CaX X g (.builtin "math.gcd") fGcd := by
  intro pins s σ H vs us Q I rv ⟨G, ds, r, sg, rd, hF, q⟩
  unfold fGcd at hF
  split at hF
  · rename_i a b
    cases hF
    obtain ⟨v, w, rfl, r1, r2⟩ := rpl2 rd
    cases r1
    cases r2
    exact cr_gcd pins s σ H _ us Q I rv ⟨a, b, rfl, q _ G H (Ext.rfl sg) (.int _)⟩
  · cases hF
/-- a built-in function under a module's name -/
theorem px_bim (hc : CaX X f.g (.builtin id) F) (ha : PXA X f W (e :: es) av) (hm : X.mg x = some (.builtin id)) (hg : Gl X x := by rfl) (hdb : (x == ("__debug__" : Str)) = false := by decide)
    (he : starEach (e :: es) X.env = (false, eval e X.env) :: starEach es X.env := by rfl) (hpl : (backTo pos (starEach es X.env)).any (·.1) = false := by rfl) : PX X f W (.Call (.Name x p) (e :: es) [] pos) (eBi F av) :=
  PE.imp (pe_callBfun hc hg hm ha hdb he hpl) fun σ H Q h => args h
end
/-! ### != by own __eq__ -/
def dNeU (ms : Ms) (x y : D) : Option D := match x with
  | .obj _ _ => (match dEqU ms x y with
    | some (.bl b) => some (.bl (!b))
    | _ => none)
  | _ => dNe x y
end Dx

set_option Elab.async false
set_option linter.all false
set_option maxRecDepth 100000
set_option maxHeartbeats 4000000
/-! the data layer: enumerate of both, not in, !=, facts of several classes -/
namespace Dx
open PySem PySem.Spec PyProof.Rows L2 Gd
/-! ### small words -/
theorem all_cons {α : Type} {p : α → Prop} {a : α} {l : List α} (h : p a) (t : ∀ x ∈ l, p x) : ∀ x ∈ a :: l, p x := fun x hx => by
  rcases List.mem_cons.mp hx with rfl | hx
  · exact h
  · exact t x hx
theorem lookup_mem' {α : Type} {c : Str} {m : α} : ∀ {ms : List (Str × α)}, ms.lookup c = some m → c ∈ ms.map (·.1)
  | [], h => by cases h
  | (a, b) :: r, h => by
    rw [List.lookup_cons] at h
    cases hx : c == a with
    | true => simp [beq_iff_eq.mp hx]
    | false => rw [hx] at h; simp [lookup_mem' h]
theorem clsf_of {K : PySem.W.Frag} {mg : Str → Option Value} {ms : Ms} (cs : List Str) (h : ms.map (·.1) = cs) (a : ∀ c ∈ cs, ClsF K mg c) : ∀ c mm, ms.lookup c = some mm → ClsF K mg c := fun c mm l => a c (h ▸ lookup_mem' l)
def AllFn (K : PySem.W.Frag) (mg : Str → Option Value) (nm : Str) (cs : List Str) : Prop := ∀ c ∈ cs, ∀ C fa, mg c = some (.ref C) → PySem.W.findIn K (.ref C) nm = some (some (.ref fa)) → PySem.W.fnIn K fa = true
theorem allFn_of {K : PySem.W.Frag} {mg : Str → Option Value} {nm : Str} {ms : Ms} {cs : List Str} (h : AllFn K mg nm cs) (e : ms.map (·.1) = cs := by rfl) {fa : Addr} : ∀ c mm, ms.lookup c = some mm → ∀ C, mg c = some (.ref C) → PySem.W.findIn K (.ref C) nm = some (some (.ref fa)) → PySem.W.fnIn K fa = true :=
  fun c mm l C hc hf => h c (e ▸ lookup_mem' l) C fa hc hf
theorem alli_one {P : Program} {w : World} {K : PySem.W.Frag} {mg : Str → Option Value} {base : Heap} {k : Nat} {c : Str} {m : Fn} (h : CalI P w K mg base c k m) : AllI P w K mg base k [(c, m)] := fun c' mm l => by
  rw [List.lookup_cons] at l
  cases hx : c' == c with
  | true => rw [hx] at l; cases l; rw [beq_iff_eq.mp hx]; exact h
  | false => rw [hx] at l; cases l
/-- a class's statement, its j-th row -/
def mthS (s : Stmt) (j : Nat) : Stmt := match s with
  | .ClassDef _ _ _ body _ _ _ _ _ _ _ => body.getD j (.Pass ⟨0, 0, 0, 0⟩)
  | _ => .Pass ⟨0, 0, 0, 0⟩
/-! ### enumerate -/
@[simp] def iEnumT (a : AV) : LV := fun ρ => (a ρ).bind fun ds ρ1 => match ds with
  | [d] => (match itemsS d with
    | some xs => .ok (enumD xs) ρ1
    | none => .no)
  | _ => .no
section
variable {X : Cx} {f : Fm} {W : WX}
theorem pxi_enumT {e : Expr} {av : AV} {p pos tpos : Pos} {elts : List Expr} {kk : Nat} (ha : PXA X f W [e] av) (hm : X.mg "enumerate" = none) (hg : Gl X "enumerate" := by rfl) (hs : starEach [e] X.env = [(false, eval e X.env)] := by rfl) (hk : X.K = f.g.K := by rfl) :
    PXI X f W (.Tuple elts kk tpos) (.Call (.Name "enumerate" p) [e] [] pos) (iEnumT av) :=
  PI.imp (pi_enumB hg hm ha hs) fun σ H R ⟨G, ρ, fi, q⟩ => ⟨G, ρ, fi, PostX.bind q fun ds ρ1 G1 H1 s1 fi1 q1 vs rvs => by
    match ds, q1 with
    | [], q1 => exact q1.elim
    | _ :: _ :: _, q1 => exact q1.elim
    | [d], q1 =>
      obtain ⟨v, rfl, rp⟩ := rpl1 rvs
      cases hi : itemsS d with
      | none => simp only [hi] at q1; exact q1.elim
      | some xs =>
        simp only [hi] at q1
        obtain ⟨t, a, us, rfl, sq, ra⟩ : ∃ (t : Bool) (a : Addr) (us : List V), v = .ref a ∧ (∀ G2 H2, Same G1 G2 → Same G2 H2 → SqB t f.g.K H2 a us) ∧ RpL f.g G1 us xs := by
          cases rp <;> simp only [itemsS, Option.some.injEq, reduceCtorEq] at hi
          · rename_i a us ds sq n rr
            subst hi
            exact ⟨true, a, us, rfl, fun G2 H2 s1 s2 => sqTS (same_trans s1 s2) sq, rr⟩
          · rename_i a us ds sq n rr
            subst hi
            exact ⟨false, a, us, rfl, fun G2 H2 s1 s2 => SqL.of (s2 _ _ (s1 _ _ sq)), rr⟩
        refine ⟨t, a, us, rfl, hk ▸ sq G1 H1 same_rfl fi1.gh, q1 G1 H1 same_rfl fi1 _ (iter_pair walk_enumB ?_ (fun G2 H2 s1 s2 => hk ▸ sq G2 H2 s1 s2) (fun i x e h => ?_) fun i x e h => ra.get e)⟩
        · rw [pairD_len]; simp [ra.len]
        · cases e
          rw [ra.len] at h
          exact ⟨.int i, by simp [h], .int _⟩⟩
end
/-! ### not in, != -/
section
variable {X : Cx} {g : Gm} {b : Bool} {k : Nat} {ms : Ms}
theorem ox_ninU (M : AllS X.prog X.w X.K X.mg X.base "__contains__" k 2 ms) (hr : Rb b k X.A) (hu : X.A.units + 65 < cLine) (eg : g = ⟨X.K, X.mg⟩ := by rfl) : OpX X g (compareOp .NotIn) (dInU true ms) := by
  intro pins s σ H x y u v Q I rx ry ⟨G, d, e, r, sg, rd, re, hF, q⟩
  by_cases ho : ∃ c fs, e = .obj c fs
  · obtain ⟨c, fs, rfl⟩ := ho
    obtain ⟨mm, hm, h2⟩ := Option.bind_eq_some_iff.mp (show (ms.lookup c).bind _ = some r from hF)
    split at h2
    rotate_left
    · cases h2
    rename_i bb cs hr2
    cases h2
    obtain ⟨C, fa, hc, hs, hf, F⟩ := M c mm hm
    subst eg
    cases hrp : re
    rename_i a C' dx fv ea od mg' ek rr
    have eC : C' = C := by have := mg'.symm.trans hc; injection this with z; injection z
    subst eC
    cases ry
    obtain ⟨mA, J, _⟩ := ins_get I.hok (sg _ _ ea)
    obtain ⟨od', J, _⟩ := J.look
    obtain ⟨m, hFr⟩ := I.fr
    refine PySem.W.notIn_K hFr I.ok.mod.kin J hs hf ?_
    refine wpAny_mono (run_in (E' := X.xe) (vs := [.ref a, x]) (Q := fun v H' => v = .bl bb ∧ Q (.bl (xor true bb)) H') F hr.rm I.env0 I (.cons rfl (.cons rx .nil)) sg (.cons re (.cons rd .nil)) rfl hr2 fun v G' H' x r' => ?_) (fun z s' hq => ?_) fun _ _ y => y
    · cases r'
      exact ⟨rfl, q _ G' H' x (.bl _)⟩
    · obtain ⟨v, H', I', rz, rfl, hq⟩ := hq
      cases rz
      rw [Bool.true_xor] at hq
      exact wpAny_truthy_bool ⟨.bl (!bb), H', I', rfl, hq⟩
  · have : dInU true ms d e = dIn true d e := by
      cases e <;> first | rfl | exact absurd ⟨_, _, rfl⟩ ho
    rw [this] at hF
    exact ox_nin (g := g) hu (by rw [eg]) pins s σ H x y u v Q I rx ry ⟨G, d, e, r, sg, rd, re, hF, q⟩
end
end Dx

set_option Elab.async false
set_option linter.all false
set_option maxRecDepth 100000
set_option maxHeartbeats 4000000
/-! the data layer: len of a comprehension of a set of ints or texts -/
namespace Dx
open PySem PySem.Spec PyProof.Rows L2 Gd PpSet
abbrev Mem0 : Key → Bool := fun _ => false
abbrev memAdd (M : Key → Bool) (k : Key) : Key → Bool := fun j => M j || decide (j = k)
theorem newset_is (P : Program) (w : World) (h : Heap) : (h.push { cls := .type "set", dict := none, data := .set #[] 0 (.fresh 0 0 (!w.params.followText "set-order")) }).SetOf (mixKind P w) h.objs.size Mem0 0 :=
  ⟨_, #[], 0, _, Heap.get?_push_size _ rfl, ⟨rfl, rfl, rfl⟩, rfl, (fun _ z => by simp at z), (fun _ => by simp), (by decide), (by rfl), rfl⟩
section
variable {X : Cx}
theorem addK_run {pins : List (Addr × Obj)} {σ : L2.St} {H : Hp} {s : Shared} {E : Value → Shared → Prop} {B : Addr} {M : Key → Bool} {c : Nat} {k : Key} {u : Value} {Q : Value → Shared → Prop} (I : Inv X pins σ H s) (hB : H B = some (SetK X.prog X.w B M c)) (room : c + 1 < scanBound)
    (ru : RelV (kV k) u) (go : ∀ t, Inv X pins σ (upd H B (SetK X.prog X.w B (memAdd M k) (if M k = true then c else c + 1))) t → Q .none t) : wpAny (model X.prog X.w) X.A (call (.builtin "set.add") [.ref B, u]) Q E s := by
  refine call_set_add (kV_is ru) (key_scan ru) (setK_get I hB) room fun g sb new => ?_
  obtain ⟨o, hz⟩ := id new
  exact go _ (I.write (e := B) (t' := s.toks + 1) (by rw [hB]; trivial) (.inl rfl) (fun b z hb hu => (sb.2 b hb).trans hu) ⟨o, hz.choose_spec.choose_spec.choose_spec.1⟩ (setK_new new))
/-- a walk through the turns of such a block: the states of its set -/
def TurnsK (w : World) (P : Program) (J : It) (g : TG) (tt : TT) (te : TE) (vs : List Nat) (σ : L2.St) (B : Addr) (Z : Hp → Prop) (V0 : Nat → Nat → Hp → Prop) : Prop := ∀ i m H, V0 i m H →
  (J.stop i H ∧ Z H) ∨ (J.go i H ∧ ∃ N : Hp → Prop, (∀ H', N H' → ∃ m', m' < m ∧ V0 (i + 1) m' H') ∧ ∀ x H', J.yld i H x H' → g x (L2.wipe σ vs) H' fun σ2 H2 => L2.wipe σ2 vs = L2.wipe σ vs ∧ tt σ2 H2 fun b H3 =>
    if b = true then te σ2 H3 fun y H4 => ∃ (k : Key) (M : Key → Bool) (c : Nat), y = kV k ∧ H4 B = some (SetK P w B M c) ∧ c + 1 < scanBound ∧ N (upd H4 B (SetK P w B (memAdd M k) (if M k = true then c else c + 1))) else N H3)
def tScK (w : World) (P : Program) (wi : TI) (g : TG) (tt : TT) (te : TE) (vs : List Nat) : TE := fun σ H Q => wi σ H fun J H1 => ∀ B, H1 B = none → ∃ V0 : Nat → Nat → Hp → Prop, (∃ m, V0 0 m (upd H1 B (SetK P w B Mem0 0))) ∧ TurnsK w P J g tt te vs σ B (Q (.ref B)) V0
theorem pe_scK {elt tg iter : Expr} {ifs : List Expr} {scope : Scope} {own : List (Str × Nat)} {pos : Pos} {wi : TI} {g : TG} {tt : TT} {te : TE} (hc : X.calm = true) (hN : X.N.Nodup) (hi : PI X tg iter wi) (ok : BlkOk X.N X.env.scope scope own)
    (hg : ∀ (s : Shared) (H : Hp) (C : Addr) (cl : List (Str × Addr)) (fp : List Addr), PG (X.blk s H scope (compEnvC scope cl C X.env) fp) tg g) (ht : ∀ (s : Shared) (H : Hp) (C : Addr) (cl : List (Str × Addr)) (fp : List Addr), PTs (X.blk s H scope (compEnvC scope cl C X.env) fp) ifs tt)
    (he : ∀ (s : Shared) (H : Hp) (C : Addr) (cl : List (Str × Addr)) (fp : List Addr), PE (X.blk s H scope (compEnvC scope cl C X.env) fp) elt te) (hs : ∀ x, foldedSetIterable iter X.env x = pure x := by intro _; rfl) :
    PE X (.SetComp elt [⟨tg, iter, ifs, 0⟩] scope pos) (tScK X.w X.prog wi g tt te (own.map (·.2))) := by
  refine ⟨fun pins s σ H Q I h => ?_⟩
  rw [eval_SetComp]
  generalize hws : own.map (·.2) = ws at h
  have frees : ∀ y ∈ scope.names, y.2 = .free → ∃ c, X.env.cells.lookup y.1 = some c := fun y hy e => (ok.free y hy e).elim (fun k => I.ok.has _ (.inl k)) fun k => I.ok.has _ (.inr k)
  refine wpAny_comprehension_free (use := none) rfl hs (closure_ok frees) ok.kind (fun y hy e => by rw [ok.uniq y hy, e]) (thn (hi.run pins s σ H _ I h) fun xv sa hx => thn hx fun itv sb hb => ?_)
  obtain ⟨it, fp, tn, J, Hb, rfl, Ib, T, stb, fpb, q⟩ := hb
  refine newSet_ok (newEnv_comp ?_)
  generalize eB : sb.heap.objs.size = B
  have nB : Hb B = none := Ib.hok.fresh (Nat.le_of_eq eB)
  obtain ⟨V0, ⟨m0, v0⟩, turns⟩ := q B nB
  generalize esc : ({ sb with heap := sb.heap.push { cls := .type "set", dict := none, data := .set #[] 0 (.fresh 0 0 (!X.w.params.followText "set-order")) } } : Shared) = sc
  have Ic : Inv X pins σ (upd Hb B (SetK X.prog X.w B Mem0 0)) sc := by
    subst esc
    exact Ib.laid (t' := sb.toks) (fun b o e => Heap.get?_push_of_some _ e) (Nat.le_of_eq eB) (by subst eB; exact setK_new (newset_is _ _ _))
  have hsc : sc.heap = sb.heap.push { cls := .type "set", dict := none, data := .set #[] 0 (.fresh 0 0 (!X.w.params.followText "set-order")) } := by rw [← esc]
  have below : ∀ b ∈ fp, b < sb.heap.objs.size := fun b hb => (T.obj _ _ stb b hb).elim fun o e => Heap.lt_size e.1
  have fpc : ∀ b ∈ fp, FpOk X pins (upd Hb B (SetK X.prog X.w B Mem0 0)) b ∧ b < sc.heap.objs.size := fun b hb => by
    have l := below b hb
    exact ⟨⟨(upd_ne (by rw [← eB]; exact Nat.ne_of_lt l)).trans (fpb b hb).1, (fpb b hb).2⟩, by rw [hsc, Heap.size_push]; exact Nat.lt_succ_of_lt l⟩
  have stc : tn 0 sc.heap := T.keep _ _ _ stb fun b _ o e => by rw [hsc]; exact Heap.get?_push_of_some _ e
  have Id := block_start Ic ok hN fpc
  generalize eC : cellsFrom (sc.heap.objs.size + 1) scope.names (cloFrom X.env.cells scope.names []) = cl at Id
  have pg := hg sc (upd Hb B (SetK X.prog X.w B Mem0 0)) sc.heap.objs.size cl fp
  have pt := ht sc (upd Hb B (SetK X.prog X.w B Mem0 0)) sc.heap.objs.size cl fp
  have pe := he sc (upd Hb B (SetK X.prog X.w B Mem0 0)) sc.heap.objs.size cl fp
  rw [hws] at Id
  show codeAny _ _ (.compStart (.SetComp elt [⟨tg, iter, ifs, 0⟩] scope pos) 0 (.ref it) (.ref B) (compEnvC scope cl sc.heap.objs.size X.env)) (compPost (model X.prog X.w) X.A X.xe none (EP X pins σ Q) (.ref B) sc.heap.objs.size) { sc with heap := pushCells (sc.heap.push { cls := .type "dict", data := .dict #[] }) scope.names }
  have nofp : ∀ b ∈ fp, (upd Hb B (SetK X.prog X.w B Mem0 0)) b = none := fun b hb => (fpc b hb).1.1
  generalize ece : compEnvC scope cl sc.heap.objs.size X.env = ce at Id pg pt pe ⊢
  have cloc : ce.locals = sc.heap.objs.size := by subst ece; rfl
  generalize eHc : upd Hb B (SetK X.prog X.w B Mem0 0) = Hc at Ic Id pg pt pe v0 nofp fpc
  generalize esd : ({ sc with heap := pushCells (sc.heap.push { cls := .type "dict", data := .dict #[] }) scope.names } : Shared) = sd at Id ⊢
  have std : tn 0 sd.heap := T.keep _ _ _ stc fun b _ o e => by rw [← esd]; exact pushCells_keeps _ _ _ _ (Heap.get?_push_of_some _ e)
  have still : ∀ {τ : L2.St} {H' : Hp} {t : Shared}, Inv (X.blk sc Hc scope ce fp) [] τ H' t → (∀ b ∈ fp, H' b = none) → ∀ b ∈ fp, FpOk (X.blk sc Hc scope ce fp) [] H' b := fun {τ H' t} J' hn b hb =>
    ⟨hn b hb, (J'.ok.exf b hb).1, J'.ok.exfs b hb, .inl hb, fun x c e => (J'.ok.exf b hb).2 x c e, fun p hp => absurd (show p ∈ ([] : List (Addr × Obj)) ++ [] from hp) (by simp)⟩
  have fin : codeAny (model X.prog X.w) X.A (.compLoop (.SetComp elt [⟨tg, iter, ifs, 0⟩] scope pos) 0 (.ref it) (.ref B) ce) (compPost (model X.prog X.w) X.A X.xe none (EP X pins σ Q) (.ref B) sc.heap.objs.size) sd := by
    refine compLoopS_any (fun n t => ∃ i H', Inv (X.blk sc Hc scope ce fp) [] (L2.wipe σ ws) H' t ∧ tn i t.heap ∧ (∀ b ∈ fp, H' b = none) ∧ V0 i n H') ?_ m0 ⟨0, Hc, Id, std, nofp, v0⟩
    rintro n se ⟨i, He, Ie, ste, ne, ve⟩
    rcases turns i n He ve with ⟨stop, qq⟩ | ⟨go, N, hN2, step⟩
    · refine thnF (T.done (X.blk sc Hc scope ce fp) rfl rfl rfl hc i [] se _ He (fun _ _ => False) Ie (still Ie ne) ste stop) fun r sf ⟨hr, If⟩ => ?_
      subst hr
      have Ig : Inv X pins σ He sf := Ic.call' (ch := fp) If.os If.base If.hok If.bare fun b hb => ⟨(fpc b hb).1.2.2.2.1, (fpc b hb).1.2.1, (fpc b hb).1.2.2.2.2.1, (fpc b hb).1.2.2.2.2.2⟩
      have nC : He sc.heap.objs.size = none := cloc ▸ If.free
      obtain ⟨m, hn, _⟩ := If.loc
      have hn : sf.heap.Ns sc.heap.objs.size m := cloc ▸ (show sf.heap.Ns ce.locals m from hn)
      obtain ⟨f0, f1, f2, f3, f4, f5⟩ := Ic.fpOk (Nat.le_refl _) nC
      exact ⟨m, hn, fun h'' sb' => ⟨.ref B, He, Ig.turned (t' := sf.toks) (fun b o hb e => (sb'.2 b hb).trans e) f0 f1 f3 f4 f5, rfl, qq⟩⟩
    · refine thnF (T.item (X.blk sc Hc scope ce fp) rfl rfl rfl hc i [] se _ He (fun _ _ => False) Ie (still Ie ne) ste go) fun r sf ⟨u, hr, hf⟩ => ?_
      subst hr
      refine thnF hf fun _ sg ⟨x, Hg, Ig, rg, yg, stg, ng⟩ => ?_
      refine thnF (pg.run _ sg _ Hg x u _ (Ig.pinned (still Ig ng) (T.obj _ _ stg)) rg (step x Hg yg)) fun _ sh ⟨σh, Hh, Ih, hw, qh⟩ => ?_
      refine thnF (pt.run _ sh σh Hh _ Ih qh) fun b si ⟨Hi, Ii, qi⟩ => ?_
      have next : ∀ {t : Shared} {H' : Hp}, Inv (X.blk sc Hc scope ce fp) ([] ++ pinsAt fp sg.heap) σh H' t → N H' → ∃ m, m < n ∧ ∃ i H', Inv (X.blk sc Hc scope ce fp) [] (L2.wipe σ ws) H' t ∧ tn i t.heap ∧ (∀ b ∈ fp, H' b = none) ∧ V0 i m H' := fun {t H'} J' nx => by
        obtain ⟨m', hm, v'⟩ := hN2 H' nx
        have pinned : ∀ b ∈ fp, ∀ o, sg.heap.get? b = some o → t.heap.get? b = some o ∧ H' b = none := fun b hb o e =>
          ⟨(J'.pin (b, o) (List.mem_append_right _ (List.mem_append_right _ (mem_pinsAt hb e)))).1, (J'.pin (b, o) (List.mem_append_right _ (List.mem_append_right _ (mem_pinsAt hb e)))).2.1⟩
        refine ⟨m', hm, i + 1, H', (J'.unpinned (pins := [])).weak (by rw [← hw, L2.wipe_length]) (fun j v e => ?_), T.keep _ _ _ stg fun b hb o e => (pinned b hb o e).1, fun b hb => ?_, v'⟩
        · exact (wipe_some (by rw [← hw] at e; exact e)).1
        · obtain ⟨o, e, _⟩ := T.obj _ _ stg b hb
          exact (pinned b hb o e).2
      cases b with
      | false =>
        simp only [Bool.false_eq_true, if_false] at qi ⊢
        exact next Ii qi
      | true =>
        simp only [if_true] at qi ⊢
        refine thnF (pe.run _ si σh Hi _ Ii qi) fun z sj ⟨yv, Hj, Ij, rj, k, M, c, ey, hB, room, nx⟩ => ?_
        subst ey
        exact addK_run (X := X.blk sc Hc scope ce fp) Ij hB room rj fun sk Ik => next Ik nx
  exact codeAny_compStart_set fin (T.self X.A 0 _ _ _ std fin)
end
end Dx

set_option Elab.async false
set_option linter.all false
set_option maxRecDepth 100000
set_option maxHeartbeats 4000000
/-! the data layer: len of a comprehension of a set -/
namespace Dx
open PySem PySem.Spec PyProof.Rows L2 Gd PpSet
def insK (a : List Key) (k : Key) : List Key := if k ∈ a then a else a ++ [k]
def dedK (ks : List Key) : List Key := ks.foldl insK []
theorem dedK_snoc (a : List Key) (k : Key) : dedK (a ++ [k]) = insK (dedK a) k := by unfold dedK; rw [List.foldl_append]; rfl
theorem insK_mem {a : List Key} {k j : Key} : j ∈ insK a k ↔ j ∈ a ∨ j = k := by
  unfold insK
  split
  · rename_i h
    exact ⟨.inl, fun z => z.elim id fun e => e ▸ h⟩
  · simp
theorem insK_len (a : List Key) (k : Key) : (insK a k).length ≤ a.length + 1 := by
  unfold insK; split <;> simp
theorem dedK_len (ks : List Key) : (dedK ks).length ≤ ks.length := by
  have : ∀ (ks a : List Key), (ks.foldl insK a).length ≤ a.length + ks.length := fun ks => by
    induction ks with
    | nil => intro a; simp
    | cons k r ih => intro a; rw [List.foldl_cons, List.length_cons]; have := ih (insK a k); have := insK_len a k; omega
  have h := this ks []
  simpa [dedK] using h
def keysOf : List D → Option (List Key)
  | [] => some []
  | d :: r => match dKey d, keysOf r with
    | some k, some ks => some (k :: ks)
    | _, _ => none
@[simp] def eLenS (iv : LV) (t : GV) (c : BV) (e : EV) (vs : List Nat) : EV := fun ρ => (iv ρ).bind fun ds ρ1 => if noMut ρ1 vs = true ∧ ds.length < 1000 then (match lcL t c e vs ds (wipeE ρ1 vs) with
    | .ok ys ρ' => (match keysOf ys with
      | some ks => if ks.length < 1000 then .ok (.int ((dedK ks).length : Nat)) (restE ρ' ρ1 vs) else .no
      | none => .no)
    | _ => .no) else .no
theorem sc_itK {w : World} {P : Program} {J : It} {n : Nat} {G : Hp → Prop} {Y : Nat → Hp → V → Hp → Prop} (wk : Walk J n G Y) {g : TG} {tt : TT} {te : TE} {vs : List Nat} {σ : L2.St} {B : Addr} {Z : Hp → Prop} (Pv : Nat → Hp → Prop) (hG : ∀ i H, i ≤ n → Pv i H → G H)
    (hs : ∀ i x H H', i < n → Pv i H → Y i H x H' → g x (L2.wipe σ vs) H' fun σ2 H2 => L2.wipe σ2 vs = L2.wipe σ vs ∧ tt σ2 H2 fun b H3 =>
      if b = true then te σ2 H3 fun y H4 => ∃ (k : Key) (M : Key → Bool) (c : Nat), y = kV k ∧ H4 B = some (SetK P w B M c) ∧ c + 1 < scanBound ∧ Pv (i + 1) (upd H4 B (SetK P w B (memAdd M k) (if M k = true then c else c + 1))) else Pv (i + 1) H3) (hd : ∀ H, Pv n H → Z H) :
    TurnsK w P J g tt te vs σ B Z fun i m H => m = n - i ∧ i ≤ n ∧ Pv i H := by
  rintro i m H ⟨rfl, hi, p⟩
  have q := hG i H hi p
  by_cases hlt : i < n
  · exact .inr ⟨wk.goes i H hlt q, Pv (i + 1), fun H' p' => ⟨n - (i + 1), by omega, rfl, hlt, p'⟩, fun x H' y => hs i x H H' hlt p (wk.yields i H x H' hlt q y)⟩
  · have e : i = n := by omega
    subst e
    exact .inl ⟨wk.stops H q, hd H p⟩
section
variable {X : Cx} {f : Fm} {W : WX}
theorem scS {vs ts : List Nat} {σ : L2.St} {H1 G1 : Hp} {ρ1 : Ev} {t : GV} {c : BV} {e : EV} {ds : List D} {J : It} {Z : Hp → Prop} {B : Addr} (hts : ∀ j ∈ ts, j ∈ vs) (fi1 : FI f G1 H1 σ ρ1) (hB : H1 B = none) (hJ : IterOk f.g G1 J ds) (nm : noMut ρ1 vs = true) (hlen : ds.length < 1000)
    {ys : List D} {ks : List Key} {ρ' : Ev} (hL : lcL t c e vs ds (wipeE ρ1 vs) = .ok ys ρ') (hk : keysOf ys = some ks)
    (q : ∀ G H, Same G1 G → FI f G H σ (restE ρ' ρ1 vs) → H B = some (SetK X.prog X.w B (fun k => decide (k ∈ dedK ks)) (dedK ks).length) → Z H) :
    ∃ V0 : Nat → Nat → Hp → Prop, (∃ m, V0 0 m (upd H1 B (SetK X.prog X.w B Mem0 0))) ∧ TurnsK X.w X.prog J (fun v σ H Q => ∃ pr, tXG (f.at pr) ts t v σ H Q) (fun σ H Q => ∃ pr, tXB (f.at pr) W0 c σ H Q) (fun σ H Q => ∃ pr, tX (f.at pr) W0 e σ H Q) vs σ B Z V0 := by
  obtain ⟨Gd, Y, w, gd, yy⟩ := hJ
  have nb := noMut_nobor nm
  have sb : ∀ a : List Key, ∀ k, SetK X.prog X.w B (memAdd (fun j => decide (j ∈ dedK a)) k) (if (fun j => decide (j ∈ dedK a)) k = true then (dedK a).length else (dedK a).length + 1) = SetK X.prog X.w B (fun j => decide (j ∈ dedK (a ++ [k]))) (dedK (a ++ [k])).length := fun a k => by
    have e1 : memAdd (fun j => decide (j ∈ dedK a)) k = fun j => decide (j ∈ dedK (a ++ [k])) := by
      funext j
      rw [dedK_snoc]
      simp only [memAdd, insK_mem, Bool.decide_or]
    have e2 : (if (fun j => decide (j ∈ dedK a)) k = true then (dedK a).length else (dedK a).length + 1) = (dedK (a ++ [k])).length := by
      rw [dedK_snoc]
      unfold insK
      by_cases h : k ∈ dedK a <;> simp [h]
    rw [e1, e2]
  refine ⟨_, ⟨_, rfl, Nat.zero_le _, ?_⟩, sc_itK (vs := vs) (σ := σ) (B := B) w
    (fun i H => ∃ G ρi as r, FI (f.add B (SetK X.prog X.w B (fun j => decide (j ∈ dedK as)) (dedK as).length)) G H (L2.wipe σ vs) ρi ∧ Same G1 G ∧ as.length ≤ i ∧ (∃ rk, lcL t c e vs (ds.drop i) ρi = .ok r ρ' ∧ keysOf r = some rk ∧ as ++ rk = ks))
    (fun i H _ ⟨G, ρi, as, r, fi, s, _⟩ => gd G H s fi.gh) (fun i x H H' hi ⟨G, ρi, as, r, fi, s, hn, rk, hl, hr, he⟩ y => ?_) fun H ⟨G, ρi, as, r, fi, s, hn, rk, hl, hr, he⟩ => ?_⟩
  · exact ⟨G1, wipeE ρ1 vs, [], ys, by simpa [dedK] using (fi1.wipe nb).lay hB, same_rfl, Nat.le_refl _, ks, by simpa using hL, hk, rfl⟩
  · obtain ⟨G3, d, ext, hd, rp⟩ := yy i H x H' y G s fi.gh
    rw [List.drop_eq_getElem_cons hi, show ds[i] = d by rw [List.getElem?_eq_getElem hi] at hd; exact Option.some.inj hd] at hl
    unfold lcL at hl
    have fi' := fi.ext ext
    cases ht : t d ρi with
    | er e ρ => rw [ht] at hl; cases hl
    | no => rw [ht] at hl; cases hl
    | ok a ρa =>
      simp only [ht] at hl
      refine ⟨_ :: f.pr, G3, ρi, d, fi', rp, ?_⟩
      rw [ht]
      refine fun σ2 G4 H4 s4 fi4 kj ll => ?_
      have we : L2.wipe σ2 vs = L2.wipe σ vs := wipe_eq (fun j hj => kj j fun z => hj (hts j z)) ll
      have nbr : ∀ {o : HO} {G5 H5 : Hp} {ρ5 : Ev}, FI (f.add B o) G5 H5 σ2 ρ5 → ∀ v ∈ vs, ∀ c, ρ5[v]? ≠ some (.bor c) := fun fi5 => FI.nobor fi1 fi5 rfl nb
      refine ⟨we, _ :: f.pr, G4, ρa, fi4, ?_⟩
      cases hc : c ρa with
      | er e ρ => simp only [hc, Re.bind] at hl; cases hl
      | no => simp only [hc, Re.bind] at hl; cases hl
      | ok k ρb =>
        simp only [hc, Re.bind] at hl
        intro G5 H5 s5 fi5
        have s15 : Same G1 G5 := same_trans s (same_trans ext.g (same_trans s4 s5))
        cases k with
        | false =>
          dsimp only at hl ⊢
          rw [if_neg Bool.false_ne_true]
          have := fi5.wipe (nbr fi5)
          rw [we] at this
          exact ⟨G5, _, as, r, this, s15, Nat.le_succ_of_le hn, rk, hl, hr, he⟩
        | true =>
          dsimp only at hl ⊢
          rw [if_pos rfl]
          refine ⟨_ :: f.pr, G5, ρb, fi5, ?_⟩
          cases hE : e ρb with
          | er e ρ => simp only [hE] at hl; cases hl
          | no => simp only [hE] at hl; cases hl
          | ok yd ρc =>
            simp only [hE] at hl
            intro G6 H6 s6 fi6 v rv
            cases hR : lcL t c e vs (ds.drop (i + 1)) (wipeE ρc vs) with
            | er e ρ => simp only [hR] at hl; cases hl
            | no => simp only [hR] at hl; cases hl
            | ok zs ρz =>
              simp only [hR] at hl
              cases hl
              unfold keysOf at hr
              cases hkk : dKey yd with
              | none => simp only [hkk, reduceCtorEq] at hr
              | some kk =>
                cases hkz : keysOf zs with
                | none => simp only [hkk, hkz, reduceCtorEq] at hr
                | some kz =>
                  simp only [hkk, hkz, Option.some.injEq] at hr
                  subst hr
                  refine ⟨kk, _, _, key_rp rv hkk, fi6.laid.1, ?_, ?_⟩
                  · have := dedK_len as
                    have : scanBound = 1000000 ∨ 2000 < scanBound := .inr (by decide)
                    omega
                  · rw [sb]
                    have := (fi6.wipe (nbr fi6)).relay (o' := SetK X.prog X.w B (fun j => decide (j ∈ dedK (as ++ [kk]))) (dedK (as ++ [kk])).length) (fun q z => nomatch z)
                    rw [we] at this
                    exact ⟨G6, _, as ++ [kk], zs, this, same_trans s15 s6, by rw [List.length_append]; simpa using hn, kz, hR, hkz, by rw [List.append_assoc]; exact he⟩
  · rw [List.drop_length] at hl
    unfold lcL at hl
    cases hl
    simp only [keysOf, Option.some.injEq] at hr
    subst hr
    rw [List.append_nil] at he
    subst he
    exact q G H s (FI.unwipe fi fi1 rfl rfl s nm).unlay fi.laid.1
def rLenK (P : Program) (w : World) : List V → Hp → VK → Prop := fun vs H Q => ∃ p M c, vs = [.ref p] ∧ H p = some (SetK P w p M c) ∧ c < 1000000 ∧ Q (.int (c : Nat)) H
theorem cr_lenK : CallR X (.builtin "len") (rLenK X.prog X.w) := by
  intro pins s σ H vs us Q I r ⟨p, M, c, e, hp, hc, q⟩
  subst e
  obtain ⟨u, rfl, rx⟩ := r.one
  cases rx
  obtain ⟨o, es, ep, t, ho, hex, hd, _, _, _, hf, hn⟩ := setK_get I hp
  exact call_len_set ho hex hd hf (by rw [hn]; omega) ⟨.int (c : Nat), H, I.tok _, ⟨_, by rw [hn]⟩, q⟩
theorem px_lenSc {elt tg iter : Expr} {ifs : List Expr} {scope : Scope} {own : List (Str × Nat)} {p pos qos : Pos} {iv : LV} {t : GV} {c : BV} {e : EV} {ts : List Nat} (hm : X.mg "len" = none) (hc : X.calm = true) (hN : X.N.Nodup) (hi : PXI X f W tg iter iv) (ok : BlkOk X.N X.env.scope scope own)
    (hts : ∀ j ∈ ts, j ∈ own.map (·.2)) (hg : ∀ (s : Shared) (H : Hp) (C : Addr) (cl : List (Str × Addr)) (fp : List Addr) (pr : List (Addr × HO)), PXG (X.blk s H scope (compEnvC scope cl C X.env) fp) (f.at pr) tg ts t)
    (ht : ∀ (s : Shared) (H : Hp) (C : Addr) (cl : List (Str × Addr)) (fp : List Addr) (pr : List (Addr × HO)), PXTs (X.blk s H scope (compEnvC scope cl C X.env) fp) (f.at pr) W0 ifs c)
    (he : ∀ (s : Shared) (H : Hp) (C : Addr) (cl : List (Str × Addr)) (fp : List Addr) (pr : List (Addr × HO)), PX (X.blk s H scope (compEnvC scope cl C X.env) fp) (f.at pr) W0 elt e) (hs : ∀ x, foldedSetIterable iter X.env x = pure x := by intro _; rfl)
    (hgl : Gl X "len" := by rfl) (hst : starEach [.SetComp elt [⟨tg, iter, ifs, 0⟩] scope pos] X.env = [(false, eval (.SetComp elt [⟨tg, iter, ifs, 0⟩] scope pos) X.env)] := by rfl) :
    PX X f W (.Call (.Name "len" p) [.SetComp elt [⟨tg, iter, ifs, 0⟩] scope pos] [] qos) (eLenS iv t c e (own.map (·.2))) := by
  have hsc := pe_scK hc hN hi ok (fun s H C cl fp => PG.ex (hg s H C cl fp)) (fun s H C cl fp => PTs.ex (ht s H C cl fp)) (fun s H C cl fp => PE.ex (he s H C cl fp)) hs (pos := pos)
  refine PE.imp (pe_callB cr_lenK hgl hm (by decide +kernel) (pa_cons hsc pa_nil hst) (by decide) (by decide) hst rfl) fun σ H Q ⟨G, ρ, fi, q⟩ => ⟨G, ρ, fi, PostX.bind q fun ds ρ1 G1 H1 s1 fi1 q1 J hJ B hB => ?_⟩
  split at q1
  rotate_left
  · exact q1.elim
  rename_i hb
  cases hL : lcL t c e (own.map (·.2)) ds (wipeE ρ1 (own.map (·.2))) with
  | er e ρ => rw [hL] at q1; exact q1.elim
  | no => rw [hL] at q1; exact q1.elim
  | ok ys ρ' =>
    rw [hL] at q1
    simp only at q1
    cases hk : keysOf ys with
    | none => rw [hk] at q1; exact q1.elim
    | some ks =>
      rw [hk] at q1
      simp only at q1
      split at q1
      rotate_left
      · exact q1.elim
      rename_i hn
      refine scS hts fi1 hB hJ hb.1 hb.2 hL hk fun G2 H2 s2 fi2 hS => ⟨B, _, _, rfl, hS, ?_, q1 G2 H2 s2 fi2 _ (.int _)⟩
      have := dedK_len ks
      omega
end
end Dx

set_option Elab.async false
set_option linter.all false
set_option maxRecDepth 100000
set_option maxHeartbeats 4000000
/-! the data layer: defs with defaults of positions -/
namespace Dx
open PySem PySem.Spec PyProof.Rows L2 Gd
section
variable {P : Program} {w : World} {K : PySem.W.Frag} {mg : Str → Option Value} {base : Heap} {b : Bool} {k : Nat} {f : Addr} {name qual : Str} {params : Arguments} {body : List Stmt} {scope : Scope} {fd : FuncData} {N prm : List Str} {dvs : List V} {sv : SV}
theorem fnxP (F : FunD K name qual params body scope dvs [] f fd) (S : FnScope N prm scope) (n j : Nat) (dd : List D) (hd : dvs ≠ []) (hdd : ∀ G, RpL ⟨K, mg⟩ G (dvs.drop j) dd) (hn : n + dd.length = prm.length)
    (hb : ∀ (T : Addr) (kV doc pm : Value) (an : Option Addr) (cdv ct : Value) (us its : List Value), us.length = n → its.length = dvs.length →
      ∃ g, bindArgs (PySem.W.fnOf name qual params body scope (.ref T) kV doc pm an cdv ct) ⟨us, []⟩ = seqItems? (.ref T) >>= g ∧ g (some its.toArray) = pure (prm.zip (us ++ its.drop j)))
    (B : BodyX P w K mg base b k N qual scope f body sv) :
    FnG P w K mg base b (k + 1) f [] (fun vs _ => spF ⟨K, mg⟩ 0 n (fun cs ds => if cs.length + ds.length = n then fnB N.length 0 prm.length sv cs (ds ++ dd) else .no) vs) := by
  obtain ⟨oc, od, dV, kV, doc, pm, an, cdv, ct, osl, rfl, lk, hcd, hD, _⟩ := F.ex
  rcases hD with ⟨e, _⟩ | ⟨_, T, o, its, m, rfl, lT, oT, rT⟩
  · exact absurd e hd
  intro A outer s H us ws vs zs Q E hr e0 r rz hzl ⟨hl, G, ps, cs, xs, ds, ev, hnb, nd, sg, cr, rp, post⟩
  have eps : ps = [] := List.eq_nil_of_length_eq_zero hnb
  subst eps
  cases cr
  simp only [List.map_nil, List.nil_append] at ev
  subst ev
  dsimp only at post
  split at post
  rotate_left
  · exact post.elim
  rename_i hc
  have kin : K.In s.heap := e0.mod.kin.keeps fun b o e => (e0.bs b o e).1
  have l1 : us.length = n := by rw [← r.length]; exact hl
  have l2 : its.length = dvs.length := rT.length.symm
  refine StX.run_bnd (CX := L2.CX P w) lk hcd S hr.rm e0 (G := fun ys H2 => ys = vs ++ dvs.drop j ∧ H2 = H) (fun A' Ex Q' h => ?_) fun s2 H2 ys ⟨h2, h3⟩ hr' => ?_
  · obtain ⟨g, e1, e2⟩ := hb T kV doc pm an cdv ct us its l1 l2
    rw [show (⟨us, ([] : List Str).zip ws⟩ : Args) = ⟨us, []⟩ from rfl, e1]
    refine wpAny_bind (wpAny_seqItems (kin _ _ lT) oT ?_)
    rw [e2]
    exact wpAny_pure (h s H (vs ++ dvs.drop j) (us ++ its.drop j) e0 Un.refl rfl (fun e s' z => z) (r.append (rT.drop j)) (by rw [List.length_append, hl, (hdd G).len, hn]) ⟨rfl, rfl⟩)
  · subst h2 h3
    exact body_run (ps := []) (cs := []) S B ⟨hr', hr.gd⟩ rfl List.nodup_nil sg .nil (RpL.app rp (hdd G)) (by have := rp.len; simp; omega) post
theorem fnP_len {n m j : Nat} {sv : SV} {dd : List D} (cs : List Cell) (ds : List D) (h : (fun cs ds => if cs.length + ds.length = n then fnB m 0 j sv cs (ds ++ dd) else FR.no) cs ds ≠ .no) : cs.length + ds.length = n := by
  dsimp only at h
  split at h
  · assumption
  · exact absurd rfl h
end
end Dx

set_option Elab.async false
set_option linter.all false
set_option maxRecDepth 100000
set_option maxHeartbeats 4000000
/-! the data layer: a name that may be data already -/
namespace Dx
open PySem PySem.Spec PyProof.Rows L2 Gd
def isDatS : Option Slot → Bool
  | some (.dat _) => true
  | _ => false
@[simp] def eDat (i : Nat) (a b : EV) : EV := fun ρ => if isDatS ρ[i]? = true then a ρ else b ρ
@[simp] theorem isDatS_dat (d : D) : isDatS (some (.dat d)) = true := rfl
@[simp] theorem isDatS_own (c : Cell) : isDatS (some (.own c)) = false := rfl
@[simp] theorem isDatS_bor (c : Cell) : isDatS (some (.bor c)) = false := rfl
section
variable {X : Cx} {f : Fm} {W : WX}
theorem px_dat {e : Expr} {i : Nat} {a b : EV} (ha : PX X f W e a) (hb : PX X f W e b) : PX X f W e (eDat i a b) := ⟨fun pins s σ H Q I ⟨G, ρ, fi, q⟩ => by
  simp only [eDat] at q
  split at q
  · exact ha.run pins s σ H Q I ⟨G, ρ, fi, q⟩
  · exact hb.run pins s σ H Q I ⟨G, ρ, fi, q⟩⟩
end
end Dx

set_option Elab.async false
set_option linter.all false
set_option maxRecDepth 100000
set_option maxHeartbeats 4000000
/-! the data layer: sorted of texts, of dicts by texts -/
namespace Dx
open PySem PySem.Spec PyProof.Rows L2 Gd
def keyTxt : List (Key × D) → Option (List Str)
  | [] => some []
  | (.inr x, _) :: r => (keyTxt r).map fun xs => x :: xs
  | (.inl _, _) :: _ => none
theorem keyTxt_eq : ∀ {ks : List (Key × D)} {xs : List Str}, keyTxt ks = some xs → ks.map (·.1) = xs.map Sum.inr
  | [], _, h => by unfold keyTxt at h; cases h; rfl
  | (.inr x, _) :: r, xs, h => by
    unfold keyTxt at h
    obtain ⟨ys, e, rfl⟩ := Option.map_eq_some_iff.mp h
    simp [keyTxt_eq e]
  | (.inl _, _) :: _, _, h => by unfold keyTxt at h; cases h
def lSortedX : List D → Option (List D)
  | [.dic ks] => (keyTxt ks).bind fun xs => if xs.length < 64 ∧ (xs.all fun x => decide (x.length ≤ big) && PyData.strOk x) = true then some (isort (xs.map D.str)) else none
  | [.lst xs] => if xs.all isStr = true ∧ xs.length < 64 ∧ xs.isEmpty = false then some (isort xs) else lSorted [.lst xs]
  | ds => lSorted ds
theorem ltD_str (a b : Str) : ltD (.str a) (.str b) = decide (a.cps.toList < b.cps.toList) := by
  unfold ltD ordK lLt
  by_cases h : a = b
  · subst h
    simp [lLt, List.lt_irrefl]
  · simp [kLt, h]
theorem str_nlt_tr {a b c : Str} (h : ltD (.str b) (.str a) = false) (h2 : ltD (.str c) (.str b) = false) : ltD (.str c) (.str a) = false := ltD_neg h h2
theorem srt_strs : ∀ {ns : List Str}, sortedS ns = true → SrtD (ns.map D.str)
  | [], _ => .nil
  | [a], _ => List.pairwise_singleton _ _
  | a :: b :: r, h => by
    have h' : (!ltCps b.cps.toList a.cps.toList && sortedS (b :: r)) = true := h
    rw [ltCps_eq] at h'
    rw [Bool.and_eq_true] at h'
    have ih := srt_strs (ns := b :: r) h'.2
    have ab : ltD (.str b) (.str a) = false := by rw [ltD_str]; simpa using h'.1
    refine List.pairwise_cons.mpr ⟨fun z hz => ?_, ih⟩
    rw [List.map_cons] at hz ih
    rcases List.mem_cons.mp hz with rfl | hz
    · exact ab
    · obtain ⟨m, hm, rfl⟩ := List.mem_map.mp hz
      exact str_nlt_tr ab ((List.pairwise_cons.mp ih).1 _ (List.mem_map.mpr ⟨m, hm, rfl⟩))
theorem ordK_str {xs : List Str} : ∀ x ∈ xs.map D.str, ∀ y ∈ xs.map D.str, ordK x = ordK y → x = y := by
  intro x hx y hy e
  obtain ⟨a, _, rfl⟩ := List.mem_map.mp hx
  obtain ⟨b, _, rfl⟩ := List.mem_map.mp hy
  simp only [ordK, List.cons.injEq, Sum.inr.injEq, and_true] at e
  rw [e]
theorem rpl_mapS {g : Gm} {G : Hp} : ∀ {ns : List Str}, (∀ x ∈ ns, x.length ≤ big ∧ PyData.strOk x = true) → RpL g G (ns.map V.str) (ns.map D.str)
  | [], _ => .nil
  | n :: r, h => .cons (.str n (h n List.mem_cons_self).1 (h n List.mem_cons_self).2) (rpl_mapS fun x hx => h x (List.mem_cons_of_mem _ hx))
theorem rpl_strs {g : Gm} {G : Hp} : ∀ {vs : List V} {ns : List Str}, RpL g G vs (ns.map D.str) → ∀ x ∈ ns, x.length ≤ big ∧ PyData.strOk x = true
  | _, [], _, _, h => nomatch h
  | _, n :: r, .cons a b, x, h => by
    rcases List.mem_cons.mp h with rfl | h
    · cases a with | str _ l o => exact ⟨l, o⟩
    · exact rpl_strs b x h
theorem isort_of {ys xs : List Str} (p : ys.Perm xs) (s : sortedS ys = true) : ys.map D.str = isort (xs.map D.str) :=
  srt_one ordK_str ((p.map D.str).trans (isort_perm _).symm) (srt_strs s) (isort_srt _)
section
variable {X : Cx} {g : Gm}
theorem cf_sortedX (hc : X.calm = true) (hK : X.K = g.K := by rfl) : CallR X (.builtin "sorted") (rXAF g lSortedX) := by
  intro pins s σ H vs us Q I rv ⟨G, ds, r, sg, rd, hF, q⟩
  have base : lSorted ds = some r → wpAny (model X.prog X.w) X.A (call (.builtin "sorted") us) (EP X pins σ Q) X.xe s := fun h => cf_sorted (g := g) hK pins s σ H vs us Q I rv ⟨G, ds, r, sg, rd, h, q⟩
  unfold lSortedX at hF
  split at hF
  · rename_i ks
    obtain ⟨xs, hk, h2⟩ := Option.bind_eq_some_iff.mp hF
    split at h2
    rotate_left
    · cases h2
    rename_i hb
    cases h2
    obtain ⟨v, rfl, rp⟩ := rpl1 rd
    cases rp with
    | dic qa na ea ra =>
      rename_i a o kvs
      refine call_sortedD hc pins s σ H _ us Q I rv ⟨a, kvs, xs, rfl, .inr ⟨o, sg _ _ qa⟩, by rw [ea, keyTxt_eq hk], hb.1, fun ys p hp hs hn => ?_⟩
      have ok : ∀ x ∈ ys, x.length ≤ big ∧ PyData.strOk x = true := fun x hx => by
        have := List.all_eq_true.mp hb.2 x (hp.mem_iff.mp hx)
        simpa using this
      exact q _ p (by rw [← isort_of hp hs]; exact rpl_mapS ok) hn
  · rename_i xs
    split at hF
    · rename_i hb
      cases hF
      obtain ⟨ns, rfl⟩ := okSort_perm_str hb.1
      obtain ⟨v, rfl, rp⟩ := rpl1 rd
      cases rp with
      | lst qa na ra =>
        have e := rpl_mapS' ns ra
        subst e
        have ok := rpl_strs ra
        refine cr_sortedS pins s σ H _ us Q I rv ⟨_, ns, rfl, SqL.of (sg _ _ qa), by simpa using hb.2.1, fun ys p hp hs hn => ?_⟩
        exact q _ p (by rw [← isort_of hp hs]; exact rpl_mapS fun x hx => ok x (hp.mem_iff.mp hx)) hn
    · exact base hF
  · exact base hF
end
end Dx

set_option Elab.async false
set_option linter.all false
set_option maxRecDepth 100000
set_option maxHeartbeats 4000000
/-! the data layer: d.items(), xs.index(y), xs.extend(ys) -/
namespace Dx
open PySem PySem.Spec PyProof.Rows L2 Gd
theorem allFn_ix {K : PySem.W.Frag} {mg : Str → Option Value} {nm : Str} {ms : Ms} {cs : List Str} (h : AllFn K mg nm cs) (e : ms.map (·.1) = cs := by rfl) : ∀ c mm, ms.lookup c = some mm → ∀ C fa, mg c = some (.ref C) → PySem.W.findIn K (.ref C) nm = some (some (.ref fa)) → PySem.W.fnIn K fa = true :=
  fun c mm l C fa hc hf => h c (e ▸ lookup_mem' l) C fa hc hf
section
variable {X : Cx} {f : Fm} {W : WX} {g : Gm}
/-- the entries, in pairs -/
def itmD (ks : List (Key × D)) : List D := pairD (ks.map fun p => keyD p.1) (ks.map (·.2))
@[simp] def iItms (e : EV) : LV := fun ρ => (e ρ).bind fun d ρ1 => match d with
  | .dic ks => if ks.all (fun p => keyOk p.1) = true then .ok (itmD ks) ρ1 else .no
  | _ => .no
theorem pxi_items {e : Expr} {ev : EV} {apos cpos tpos : Pos} {elts : List Expr} {kk : Nat} (h : PX X f W e ev) (hbase : attributeBase e "items" X.env (eval e X.env) = eval e X.env := by rfl) (hline : (apos.endLine == cpos.line) = true := by rfl) :
    PXI X f W (.Tuple elts kk tpos) (.Call (.Attribute e "items" apos) [] [] cpos) (iItms ev) :=
  PI.imp (pi_items h hbase hline) fun σ H R ⟨G, ρ, fi, q⟩ => ⟨G, ρ, fi, PostX.bind q fun d ρ1 G1 H1 s1 fi1 q1 v rv => by
    cases rv <;> first | exact q1.elim | skip
    rename_i qa na ea ra
    simp only at q1
    split at q1
    · rename_i hks
      refine ⟨_, _, _, rfl, fi1.gh _ _ qa, q1 G1 H1 same_rfl fi1 _ (iter_pair walk_items ?_ (fun G2 H2 s1 s2 => s2 _ _ (s1 _ _ qa)) (fun i x e h => ?_) fun i x e h => ?_)⟩
      · have := congrArg List.length ea
        rw [pairD_len]
        simpa using this
      · obtain ⟨p, hp, rfl⟩ := Option.map_eq_some_iff.mp e
        obtain ⟨d, hd⟩ := keys_at ea (show _ = some (p.1, p.2) from hp)
        exact ⟨keyD p.1, by rw [List.getElem?_map, hd]; rfl, keyD_rp (List.all_eq_true.mp hks _ (List.mem_of_getElem? hd))⟩
      · exact ra.get (by rw [List.getElem?_map]; exact e)
    · exact q1.elim⟩
/-- where an item stands first -/
@[simp] def eIdx (o : EV) (a : AV) : EV := fun ρ => (o ρ).bind fun x ρ1 => match x with
  | .lst xs => (a ρ1).bind fun ys ρ2 => match ys with
    | [y] => if flatD y = true ∧ xs.all flatD = true then Re.opt ρ2 ((xs.findIdx? fun z => eqF z y).map fun (j : Nat) => D.int j) else .no
    | _ => .no
  | _ => .no
theorem px_idx {o e : Expr} {eo ev : EV} {apos cpos : Pos} (ho : PX X f W o eo) (h : PX X f W e ev) (hbase : attributeBase o "index" X.env (eval o X.env) = eval o X.env := by rfl)
    (hfew : ((backTo cpos (starEach [e] X.env)).all (fun x => !x.1) && (backToKw cpos (keywordEach [] X.env)).all (fun x => x.1.isSome)
      && decide (([e] : List Expr).length + ([] : List Keyword).length + (if ([] : List Keyword).isEmpty then 0 else 1) < 30)) = true := by rfl)
    (hline : (apos.endLine == cpos.line) = true := by rfl) (hs : starEach [e] X.env = (false, eval e X.env) :: starEach [] X.env := by rfl) (hpl : (backTo cpos (starEach [] X.env)).any (·.1) = false := by rfl) (hk : X.K = f.g.K := by rfl) :
    PX X f W (.Call (.Attribute o "index" apos) [e] [] cpos) (eIdx eo (aCons ev aNil)) :=
  PE.imp (pe_bm PySem.F.plainAttrs_list PySem.F.slot_list_index PySem.F.type_list_index mt_index ho (pxa_cons h pxa_nil hs) hbase hfew hline hs hpl) fun σ H Q ⟨G, ρ, fi, q⟩ => ⟨G, ρ, fi, PostX.bind q fun d ρ1 G1 H1 s1 fi1 q1 v rv => by
    cases rv <;> first | exact q1.elim | skip
    rename_i a vs ds qa na ra
    refine ⟨.inl ⟨rfl, _, SqL.of (fi1.gh _ _ qa)⟩, G1, ρ1, fi1, PostX.bind q1 fun y ρ2 G2 H2 s2 fi2 q2 us rus => ?_⟩
    split at q2
    · rename_i y
      obtain ⟨u, rfl, ru⟩ := rpl1 rus
      split at q2
      rotate_left
      · exact q2.elim
      rename_i hz
      cases hf : ds.findIdx? fun z => eqF z y with
      | none => rw [hf] at q2; exact q2.elim
      | some j =>
        rw [hf] at q2
        obtain ⟨hj, h1, h2⟩ := List.findIdx?_eq_some_iff_getElem.mp hf
        have rs := ra.up s2
        have hl := rs.len
        have hv : vs[j]? = some vs[j] := List.getElem?_eq_getElem (by omega)
        obtain ⟨d, hd, rd⟩ := rs.get hv
        have e : ds[j] = d := Option.some.inj ((List.getElem?_eq_getElem hj).symm.trans hd)
        have fl : ∀ {m : Nat} {z : D}, ds[m]? = some z → flatD z = true := fun h => List.all_eq_true.mp hz.2 _ (List.mem_of_getElem? h)
        refine ⟨a, vs, u, j, vs[j], rfl, rfl, SqL.of (fi2.gh _ _ (s2 _ _ qa)), flatV_of ru hz.1, flatAll_of rs hz.2, hv, ?_, fun m z' hm hz' => ?_, q2 G2 H2 same_rfl fi2 _ (.int _)⟩
        · rw [eqV_rp rd ru (fl hd) hz.1, ← e]; exact h1
        · obtain ⟨d', hd', rd'⟩ := rs.get hz'
          rw [eqV_rp rd' ru (fl hd') hz.1]
          have hm' : m < ds.length := (List.getElem?_eq_some_iff.mp hd').1
          have := h2 m hm
          have e' : ds[m] = d' := Option.some.inj ((List.getElem?_eq_getElem hm').symm.trans hd')
          rw [← e']
          simpa using this
    · exact q2.elim⟩
/-- a list taken in behind a cell's items -/
@[simp] def sExt (i : Nat) (ev : EV) : SV := fun ρ => if isLstC i ρ = true then (ev ρ).bind fun d ρ1 => match d with
  | .lst ys => withC i (fun c => match c with
    | .lst xs => if xs.length + ys.length ≤ big then some (Fl.nx, .lst (xs ++ ys)) else none
    | _ => none) ρ1
  | _ => .no
  else .no
theorem pxs_ext {i : Nat} {y : Str} {py apos cpos pos : Pos} {e : Expr} {ev : EV} (hN : X.N[i]? = some y) (h : PX X f W e ev) (hv : Vis X.env.scope y := by first | exact Or.inl rfl | exact Or.inr (Or.inl rfl) | exact Or.inr (Or.inr rfl)) (hd : (y == ("__debug__" : Str)) = false := by decide)
    (hcd : (y == ("__classdict__" : Str)) = false := by decide) (hbase : attributeBase (.Name y py) "extend" X.env (eval (.Name y py) X.env) = eval (.Name y py) X.env := by rfl)
    (hfew : ((backTo cpos (starEach [e] X.env)).all (fun x => !x.1) && (backToKw cpos (keywordEach [] X.env)).all (fun x => x.1.isSome)
      && decide (([e] : List Expr).length + ([] : List Keyword).length + (if ([] : List Keyword).isEmpty then 0 else 1) < 30)) = true := by rfl)
    (hline : (apos.endLine == cpos.line) = true := by rfl) (hs : starEach [e] X.env = (false, eval e X.env) :: starEach [] X.env := by rfl) (hpl : (backTo cpos (starEach [] X.env)).any (·.1) = false := by rfl)
    (hsw : swapsWith (.Call (.Attribute (.Name y py) "extend" apos) [e] [] cpos) none pos.line X.env = pure false := by rfl) :
    PXS X f W (.Expr (.Call (.Attribute (.Name y py) "extend" apos) [e] [] cpos) pos) (sExt i ev) :=
  PS.imp (ps_expr (pe_bm PySem.F.plainAttrs_list PySem.F.slot_list_extend PySem.F.type_list_extend mt_extend (pe_var hN hv hd hcd) (pxa_cons h pxa_nil hs) hbase hfew hline hs hpl) hsw) fun Dd σ H ⟨G, ρ, fi, q⟩ => by
    unfold sExt at q
    split at q
    · rename_i hl
      obtain ⟨p, xs, ep, hx⟩ := isLst_at fi hl
      refine ⟨_, ep, .inl ⟨rfl, xs, SqL.of hx⟩, G, ρ, fi, ?_⟩
      simp only [aCons, aNil]
      cases he : ev ρ with
      | er e ρ1 => simp only [he, Re.bind] at q ⊢; exact fun cls dd G' H' s fi' er => q cls dd σ G' H' s fi' er
      | no => simp only [he, Re.bind] at q; exact q.elim
      | ok d ρ1 =>
        simp only [he, Re.bind] at q ⊢
        intro G1 H1 s1 fi1 vs rvs
        obtain ⟨v, rfl, rv⟩ := rpl1 rvs
        cases d <;> first | exact q.elim | skip
        rename_i ds'
        cases rv with | lst qa na ra =>
        rename_i b zs
        simp only at q
        rcases withC_no (i := i) (ρ := ρ1) (k := fun c => match c with
          | .lst xs => if xs.length + ds'.length ≤ big then some (Fl.nx, .lst (xs ++ ds')) else none
          | _ => none) with ⟨a, ρ2, hw⟩ | hw
        · rw [hw] at q
          obtain ⟨s, c, c', hs', hc, hk, rfl⟩ := withC_ok hw
          obtain ⟨p1, ep1, cr⟩ := cell_at fi1 hs' hc
          rw [ep] at ep1; cases ep1
          cases c with
          | lst ds =>
            simp only at hk
            split at hk
            · rename_i hb
              cases hk
              obtain ⟨g0, n0, ys, e1, r1⟩ := cr
              refine ⟨p, b, ys, zs, rfl, rfl, e1, fi1.gh _ _ qa, by rw [r1.len, ra.len]; exact Nat.le_trans hb big_le, ?_⟩
              exact q σ G1 _ s1 (fi1.upd1 hs' (slot_mut hc) ep ⟨g0, by rw [List.length_append]; exact hb, _, upd_same, r1.app ra⟩)
            · cases hk
          | dic _ => cases hk
          | ins _ _ => cases hk
        · rw [hw] at q; exact q.elim
    · exact q.elim
end
end Dx

set_option Elab.async false
set_option linter.all false
set_option maxRecDepth 100000
set_option maxHeartbeats 4000000
/-! small words on texts as names -/
namespace Dx
open PySem PySem.Spec PyProof.Rows L2 Gd
theorem ofS (a b : String) : (Str.ofString a = Str.ofString b) = (a = b) := by
  refine propext ⟨fun h => ?_, fun h => by rw [h]⟩
  rw [Str.ofString_eq_toList, Str.ofString_eq_toList] at h
  injection h with h
  have h2 := congrArg Array.toList h
  simp only [List.toList_toArray] at h2
  have h3 : a.toList = b.toList := List.map_inj_right (fun x y e => Char.ext (UInt32.toNat_inj.mp e)) |>.mp h2
  exact String.toList_inj.mp h3
theorem ofSb (a b : String) : (Str.ofString a == Str.ofString b) = (a == b) := by
  by_cases h : a = b
  · subst h; simp
  · have : ¬ Str.ofString a = Str.ofString b := fun z => h ((ofS a b).mp z)
    rw [beq_eq_false_iff_ne.mpr this, beq_eq_false_iff_ne.mpr h]
theorem lkS {α : Type} (a b : String) (v : α) (l : List (Str × α)) : List.lookup (Str.ofString a) ((Str.ofString b, v) :: l) = if a = b then some v else List.lookup (Str.ofString a) l := by
  rw [List.lookup_cons, ofSb]
  by_cases h : a = b
  · simp [h]
  · rw [beq_eq_false_iff_ne.mpr h, if_neg h]
end Dx

set_option Elab.async false
set_option linter.all false
set_option maxRecDepth 100000
set_option maxHeartbeats 4000000
/-! the data layer: a head that tells of methods, properties, classmethods too -/
namespace Hy
open PySem PySem.Spec PyProof.Rows L2 He Dx
/-! ### where a def stands -/
def atG (x : Str) : PySem.W.Frag → Addr := fun K => ga K x
def atM (c m : Str) : PySem.W.Frag → Addr := fun K => ma K (ga K c) m
def pgA (K : PySem.W.Frag) (C : Addr) (x : Str) : Addr := match PySem.W.recIn K (ma K C x) "property" with
  | some (.ref g :: _) => g
  | _ => 0
def atP (c x : Str) : PySem.W.Frag → Addr := fun K => pgA K (ga K c) x
def atC (c m : Str) : PySem.W.Frag → Addr := fun K => He5.wf K (ga K c) "classmethod" m
/-- one def, wherever it stands -/
structure DefY where
  place : PySem.W.Frag → Addr
  name : Str
  qual : Str
  st : Stmt
  dfl : List Dv := []
  kwd : List (Str × Dv) := []
def DefY.seen (d : DefY) : FnW := some (d.name, d.qual, defArgs d.st, .stmts (defBody d.st), defScope d.st, mainGlobals, [], builtinsNs)
def lookY (K : PySem.W.Frag) (a : Addr) : FnW := match K.lookup a with
  | some ⟨_, _, .func fd, _⟩ => some (fd.name, fd.qualname, fd.params, fd.body, fd.scope, fd.globals, fd.closure, fd.builtins)
  | _ => none
def DefY.good (K : PySem.W.Frag) (d : DefY) : Bool := PySem.W.keepIn K (.ref (d.place K)) && (match K.lookup (d.place K) with
  | some ⟨_, _, .func fd, _⟩ => PySem.W.codeIn K fd.code d.qual && (dflB K fd.defaults (d.dfl.map (Dv.v K)) && kwdB K fd.kwdefaults (d.kwd.map fun q => (q.1, q.2.v K)))
  | _ => false)
theorem DefY.fun_ {K : PySem.W.Frag} {d : DefY} (e : lookY K (d.place K) = d.seen) (c : d.good K = true) : ∃ fd, FunD K d.name d.qual (defArgs d.st) (defBody d.st) (defScope d.st) (d.dfl.map (Dv.v K)) (d.kwd.map fun q => (q.1, q.2.v K)) (d.place K) fd := by
  obtain ⟨kp, c2⟩ := ba c
  unfold lookY at e
  cases q : K.lookup (d.place K) with
  | none => rw [q] at c2; cases c2
  | some o =>
    obtain ⟨oc, od, dt, osl⟩ := o
    rw [q] at c2 e
    cases dt with
    | func fd =>
      obtain ⟨n1, n2, n3, n4, n5, n6, n7, n8, n9, n10, n11, n12, n13, n14, n15⟩ := fd
      have e2 : (some (n1, n2, n3, n4, n5, n6, n7, n15) : FnW) = some (d.name, d.qual, defArgs d.st, .stmts (defBody d.st), defScope d.st, mainGlobals, [], builtinsNs) := e
      simp only [Option.some.injEq, Prod.mk.injEq] at e2
      obtain ⟨h1, h2, h3, h4, h5, h6, h7, h8⟩ := e2
      subst h1 h2 h3 h4 h5 h6 h7 h8
      obtain ⟨k1, k2⟩ := ba (show (PySem.W.codeIn K n13 d.qual && (dflB K n8 (d.dfl.map (Dv.v K)) && kwdB K n9 (d.kwd.map fun q => (q.1, q.2.v K)))) = true from c2)
      obtain ⟨k3, k4⟩ := ba k2
      exact ⟨_, ⟨oc, od, n8, n9, n10, n11, n12, n13, n14, osl, rfl, q, k1, dflB_ok k3, kwdB_ok k4⟩, kp⟩
    | _ => cases c2
/-! ### the hook -/
abbrev AlY : Type := Bool × List FnW
def obsK (fs : List (PySem.W.Frag → Bool)) (fn : List DefY) (K : PySem.W.Frag) : AlY := ((fs.all fun f => f K) && fn.all fun d => d.good K, fn.map fun d => lookY K (d.place K))
def valY (fn : List DefY) : AlY := (true, fn.map DefY.seen)
def SaysY (fs : List (PySem.W.Frag → Bool)) (fn : List DefY) (K : PySem.W.Frag) : Prop := obsK fs fn K = valY fn
def obsY (n : Nat) (fs : List (PySem.W.Frag → Bool)) (fn : List DefY) (g : Addr → Option Obj) : AlY := obsK fs fn (frT g (asD g n ++ [cStatics]))
def hookY (n : Nat) (fs : List (PySem.W.Frag → Bool)) (fn : List DefY) : PySem.W.Hook where
  α := AlY
  obs := fun s => obsY n fs fn s.heap.get?
  val := fun _ => valY fn
  says := fun _ h => ∃ K : PySem.W.Frag, K.In h ∧ SaysY fs fn K
  of := fun _ _ e => ⟨_, frT_in, e⟩
  keeps := fun _ _ _ ⟨K, hK, c⟩ k => ⟨K, PySem.W.Frag.In.keeps hK k, c⟩
theorem obsY_eq {n : Nat} {fs : List (PySem.W.Frag → Bool)} {fn : List DefY} {g : Addr → Option Obj} {s : Shared} (h : ∀ a, g a = s.heap.get? a) : obsY n fs fn g = (hookY n fs fn).obs s := by
  rw [show g = s.heap.get? from funext h] <;> rfl
section
variable {fs : List (PySem.W.Frag → Bool)} {fn : List DefY} {K : PySem.W.Frag}
theorem SaysY.fact (c : SaysY fs fn K) (i : Nat) {f : PySem.W.Frag → Bool} (h : fs[i]? = some f := by rfl) : f K = true :=
  List.all_eq_true.mp (ba (show ((fs.all fun f => f K) && fn.all fun d => d.good K) = true from congrArg (fun z : AlY => z.1) c)).1 f (List.mem_of_getElem? h)
theorem SaysY.def_ (c : SaysY fs fn K) (i : Nat) {d : DefY} (h : fn[i]? = some d := by rfl) : ∃ fd, FunD K d.name d.qual (defArgs d.st) (defBody d.st) (defScope d.st) (d.dfl.map (Dv.v K)) (d.kwd.map fun q => (q.1, q.2.v K)) (d.place K) fd := by
  have c2 := (ba (show ((fs.all fun f => f K) && fn.all fun d => d.good K) = true from congrArg (fun z : AlY => z.1) c)).2
  have e2 : (fn.map fun d => lookY K (d.place K))[i]? = (fn.map DefY.seen)[i]? := by rw [show fn.map (fun d => lookY K (d.place K)) = fn.map DefY.seen from congrArg (fun z : AlY => z.2) c]
  rw [List.getElem?_map, List.getElem?_map, h] at e2
  exact DefY.fun_ (Option.some.inj e2) (List.all_eq_true.mp c2 d (List.mem_of_getElem? h))
end
/-! ### facts -/
def faB (f : Fa) : PySem.W.Frag → Bool := fun K => f.ok K
def propB (c x : Str) : PySem.W.Frag → Bool := fun K => eqO (PySem.W.findIn K (.ref (ga K c)) x) (some (some (.ref (ma K (ga K c) x)))) && (eqO (PySem.W.specialIn K (.ref (ma K (ga K c) x)) "__get__") (some (some (.builtin "property.__get__"))) &&
  (decide (PySem.W.takesIn K (.ref (ma K (ga K c) x)) = some true) && (match PySem.W.recIn K (ma K (ga K c) x) "property" with
    | some (.ref _ :: _) => true
    | _ => false)))
def readB (c : Str) : PySem.W.Frag → Bool := fun K => PySem.W.readsIn K (ga K c) (.type "type") && eqO (PySem.W.specialIn K (.ref (ga K c)) "__getattribute__") (some (some (.builtin "type.__getattribute__")))
def cmB (c m : Str) : PySem.W.Frag → Bool := fun K => He5.wrapB K (ga K c) "classmethod" "classmethod.__get__" m && PySem.W.fnIn K (He5.wf K (ga K c) "classmethod" m)
def fnB1 (c m : Str) : PySem.W.Frag → Bool := fun K => PySem.W.fnIn K (ma K (ga K c) m)
def insB (c : Str) : PySem.W.Frag → Bool := fun K => eqO (PySem.W.findIn K (.ref (ga K c)) "__class__") (some (some (.builtin "object.__class__"))) && (eqO (PySem.W.specialIn K (.builtin "object.__class__") "__get__") (some (some (.builtin "getset_descriptor.__get__"))) &&
  (decide (PySem.W.takesIn K (.builtin "object.__class__") = some true) && (decide (PySem.W.mroIn K (ga K c) (.type "object") = some true) && ((tyL.all fun t => PySem.W.notFirst K (ga K c) (.type t)) && ((tyL.all fun t => decide (PySem.W.kitOne K (.type t) (.ref (ga K c)) = some false)) &&
  (PySem.W.noSeq K (ga K c) && PySem.W.selfFirst K (ga K c)))))))
def valB (c x : Str) (v : Dv) : PySem.W.Frag → Bool := fun K => match PySem.W.findCls K (.ref (ga K c)) (.type "type") x with
  | some (.val u) => relB (v.v K) u
  | _ => false
def bltB (x : Str) (id : String) : PySem.W.Frag → Bool := fun K => match PySem.W.nsIn K mainGlobals x with
  | some (some (.builtin y)) => decide (y = id)
  | _ => false
def tupF (x : Str) (vs : List Dv) : PySem.W.Frag → Bool := fun K => tupB K x vs
section
variable {P : Program} {w : World} {K : PySem.W.Frag} {h base : Heap} {mg : Str → Option Value} {c m x : Str} {k : Nat} {b : Bool}
theorem prop_of (g : mg c = some (.ref (ga K c))) (hc : (Fa.cls c).ok K = true) (hp : propB c x K = true) {mm : Fd} (F : FnG P w K mg base false k (atP c x K) [] (spD ⟨K, mg⟩ mm)) :
    ∃ C p fa, mg c = some (.ref C) ∧ Cls K C ∧ PropOf K C x p fa ∧ FnG P w K mg base false k fa [] (spD ⟨K, mg⟩ mm) := by
  obtain ⟨p1, hp⟩ := ba hp
  obtain ⟨p2, hp⟩ := ba hp
  obtain ⟨p3, p4⟩ := ba hp
  refine ⟨_, ma K (ga K c) x, _, g, cls_ok hc, ⟨eqO_ok p1, eqO_ok p2, of_decide_eq_true p3, ?_⟩, F⟩
  show ∃ rest, PySem.W.recIn K (ma K (ga K c) x) "property" = some (.ref (pgA K (ga K c) x) :: rest)
  unfold pgA
  split at p4
  · rename_i q r e
    exact ⟨r, by rw [e]⟩
  · cases p4
theorem read_of (h : readB c K = true) : ClX.CRead K (ga K c) (.type "type") := by
  obtain ⟨a, b⟩ := ba h
  exact ⟨a, eqO_ok b⟩
theorem cm_of (g : mg c = some (.ref (ga K c))) (hr : readB c K = true) (hm : cmB c m K = true) {mm : Fd} (F : FnG P w K mg base b k (atC c m K) [] (spD ⟨K, mg⟩ mm)) : CalC P w K mg base c m b k mm := by
  obtain ⟨a, hf⟩ := ba hm
  obtain ⟨e1, e2⟩ := He5.wrapB_ok a
  exact ⟨_, _, _, _, g, read_of hr, ⟨e1, e2, hf⟩, F⟩
theorem meth_of (g : mg c = some (.ref (ga K c))) (hc : (Fa.cls c).ok K = true) (hm : (Fa.meth c m).ok K = true) {mm : Fd} (F : FnG P w K mg base b k (atM c m K) [] (spD ⟨K, mg⟩ mm)) :
    ∃ C fa, mg c = some (.ref C) ∧ Cls K C ∧ Meth K C m fa ∧ FnG P w K mg base b k fa [] (spD ⟨K, mg⟩ mm) := ⟨_, _, g, cls_ok hc, meth_ok hm, F⟩
theorem spec_of (g : mg c = some (.ref (ga K c))) (hm : (Fa.meth c m).ok K = true) {mm : Fn} {np : Nat} (F : FnG P w K mg base false k (atM c m K) [] (fun vs _ => spF ⟨K, mg⟩ 0 np mm vs)) : CalS P w K mg base c m k np mm :=
  ⟨_, _, g, (meth_ok hm).at_, (meth_ok hm).fn, F⟩
theorem init_of (g : mg c = some (.ref (ga K c))) (hm : (Fa.mkr c).ok K = true) {mm : Fn} (F : FnG P w K mg base false k (atM c "__init__" K) [] (spI ⟨K, mg⟩ mm)) : CalI P w K mg base c k mm := ⟨_, _, g, mkr_ok hm, F⟩
theorem fld_of (g : mg c = some (.ref (ga K c))) (hc : (Fa.cls c).ok K = true) (hn : (Fa.noat c x).ok K = true) : FldD ⟨K, mg⟩ c x := ⟨_, g, cls_ok hc, noat_ok hn⟩
theorem clsF_of (g : mg c = some (.ref (ga K c))) (hc : (Fa.cls c).ok K = true) (hi : insB c K = true) : ClsF K mg c := by
  obtain ⟨a1, hi⟩ := ba hi
  obtain ⟨a2, hi⟩ := ba hi
  obtain ⟨a3, hi⟩ := ba hi
  obtain ⟨a4, hi⟩ := ba hi
  obtain ⟨a5, hi⟩ := ba hi
  obtain ⟨a6, hi⟩ := ba hi
  obtain ⟨a7, a8⟩ := ba hi
  exact ⟨_, g, ⟨cls_ok hc, eqO_ok a1, eqO_ok a2, of_decide_eq_true a3, of_decide_eq_true a4⟩, fun t ht => List.all_eq_true.mp a5 t ht, fun t ht => of_decide_eq_true (List.all_eq_true.mp a6 t ht), a7, a8⟩
theorem fn_of1 (hm : (Fa.meth c m).ok K = true) (hf : fnB1 c m K = true) (g : mg c = some (.ref (ga K c))) : ∀ C fa, mg c = some (.ref C) → PySem.W.findIn K (.ref C) m = some (some (.ref fa)) → PySem.W.fnIn K fa = true := fun C fa e1 e2 => by
  have : C = ga K c := by have := e1.symm.trans g; injection this with z; injection z
  subst this
  have e3 := e2.symm.trans (meth_ok hm).at_
  injection e3 with e3
  injection e3 with e3
  injection e3 with e3
  subst e3
  exact hf
theorem cval_of (g : mg c = some (.ref (ga K c))) (hr : readB c K = true) {v : Dv} {d : D} (hv : valB c x v K = true) (rp : ∀ G, Rp ⟨K, mg⟩ G (v.v K) d) : CVs K mg c x d := by
  unfold valB at hv
  split at hv
  · rename_i u e
    exact ⟨_, _, _, u, g, read_of hr, ⟨e, relB_ok hv⟩, rp⟩
  · cases hv
theorem blt_of (X : K.In h) (G : h.Ns mainGlobals mg) {id : String} (hb : bltB x id K = true) : mg x = some (.builtin id) := by
  unfold bltB at hb
  split at hb
  · rename_i y e
    rw [of_decide_eq_true hb] at e
    exact PySem.W.mg_of X G e
  · cases hb
theorem fld_all {cs : List Str} (h : ∀ c ∈ cs, FldD ⟨K, mg⟩ c x) : ∀ c ∈ cs, FldD ⟨K, mg⟩ c x := h
end
/-- facts of one class each -/
theorem lk_nil {α : Type} {p : Str → α → Prop} : ∀ c mm, ([] : List (Str × α)).lookup c = some mm → p c mm := fun c mm h => by cases h
theorem lk_cons {α : Type} {p : Str → α → Prop} {a : Str} {v : α} {l : List (Str × α)} (h : p a v) (t : ∀ c mm, l.lookup c = some mm → p c mm) : ∀ c mm, ((a, v) :: l).lookup c = some mm → p c mm := fun c mm e => by
  rw [List.lookup_cons] at e
  cases hx : c == a with
  | true => rw [hx] at e; cases e; rw [beq_iff_eq.mp hx]; exact h
  | false => rw [hx] at e; exact t c mm e
end Hy

set_option Elab.async false
set_option linter.all false
set_option maxRecDepth 100000
set_option maxHeartbeats 4000000
namespace Dw
open PySem PySem.Spec PyProof.Rows L2 Gd Dx
def topS (i : Nat) : Stmt := PySem.Challenge.pw_holdlevels_k74_harder_tasks_judged.main.body.getD i (.Pass ⟨0, 0, 0, 0⟩)
section
variable {P : Program} {w : World} {K : PySem.W.Frag} {mg : Str → Option Value} {base : Heap}
abbrev st_Tasks_tasks : Stmt := mthS (topS 36) 3
theorem sc_Tasks_tasks : FnScope ["self"] ["self"] (defScope st_Tasks_tasks) := ⟨rfl, rfl, rfl, by decide +kernel, rfl, by decide +kernel, by decide +kernel⟩
def m_Tasks_tasks : Fn := fnB 1 0 1
  (sRet (eFld ["Tasks"] "_tasks" (eV 0)))
theorem ok_Tasks_tasks {fa : Addr} {fd : FuncData} (F : Fun K "tasks" "Tasks.tasks" st_Tasks_tasks fa fd) (B : Bts mg) (f_Tasks__tasks : FldD ⟨K, mg⟩ "Tasks" "_tasks") :
    FnG P w K mg base false 1 fa [] (fun vs _ => spF ⟨K, mg⟩ 0 1 m_Tasks_tasks vs) :=
  fnx F sc_Tasks_tasks (fun _ _ _ _ _ _ us hl => match us, hl with | [_], _ => rfl) fun cdv A outer s H E hr ps G0 H0 pr =>
  (pxs_one (pxs_ret (px_fld (all_cons f_Tasks__tasks (fun _ z => nomatch z)) (px_v (i := 0) rfl))))
abbrev st_is_name : Stmt := topS 25
theorem sc_is_name : FnScope ["value", "letter"] ["value"] (defScope st_is_name) := ⟨rfl, rfl, rfl, by decide +kernel, rfl, by decide +kernel, by decide +kernel⟩
def m_is_name : Fn := fnB 2 0 1
  (sSeq (sIf (bOr (bNot (bOf (eBi fIsi (aCons (eV 0) (aCons (eC (.ty "str")) aNil))))) (bNot (bOf (eChain dLe dLe (eC (.int 1)) (eBi fLen (aCons (eV 0) aNil)) (eC (.int 8)))))) (sRet (eC (.bl false))) sNil)
  (sRet (eBi fAll (aCons (eFrz (cLc (iSeq (eV 0)) (tName 1) bYes (eChain dLe dLe (eC (.str "a")) (eV 1) (eC (.str "z"))) [1])) aNil))))
theorem ok_is_name {fa : Addr} {fd : FuncData} (F : Fun K "is_name" "is_name" st_is_name fa fd) (B : Bts mg) (k_MAX_LETTERS : Kd ⟨K, mg⟩ "MAX_LETTERS" (.int 8)) :
    FnG P w K mg base false 1 fa [] (fun vs _ => spF ⟨K, mg⟩ 0 1 m_is_name vs) :=
  fnx F sc_is_name (fun _ _ _ _ _ _ us hl => match us, hl with | [_], _ => rfl) fun cdv A outer s H E hr ps G0 H0 pr =>
  (pxs_cons (pxs_if (Dx.PW.pxb (pxw_or (pxb_not (pxb_val (px_bi cx_isi (pxa_cons (px_v (i := 0) rfl) (pxa_cons (px_ty (n := "str") B.str) pxa_nil)) B.isinstance))) (pxw_one (pxb_not (pxb_chain ox_le ox_le px_int (px_bi cx_len (pxa_cons (px_v (i := 0) rfl) pxa_nil) B.len) (px_k k_MAX_LETTERS))) (.inr rfl)))) (pxs_one (pxs_ret px_bl)) pxs_nil)
  (pxs_one (pxs_ret (px_bi (cx_all rfl) (pxa_cons (px_frz (pxf_lc (own := [("letter", 1)]) (ts := [1]) rfl sc_is_name.nd (pxi_seq (px_v (i := 0) rfl)) (blkOk_by (own := [("letter", 1)]) (N := ["value", "letter"]) (sc := defScope st_is_name) (by decide +kernel)) (by decide) (fun _ _ _ _ _ pr => (pxg_name (i := 1) sc_is_name.nd rfl (by first | exact Or.inl rfl | exact Or.inr rfl))) (fun _ _ _ _ _ pr => pxt_nil) (fun _ _ _ _ _ pr => (px_chain ox_le ox_le px_str (px_v (i := 1) rfl) px_str)))) pxa_nil) B.all))))
abbrev st_is_whole : Stmt := topS 11
theorem sc_is_whole : FnScope ["value"] ["value"] (defScope st_is_whole) := ⟨rfl, rfl, rfl, by decide +kernel, rfl, by decide +kernel, by decide +kernel⟩
def m_is_whole : Fn := fnB 1 0 1
  (sRet (eAnd (eBi fIsi (aCons (eV 0) (aCons (eC (.ty "int")) aNil))) (eNot (eBi fIsi (aCons (eV 0) (aCons (eC (.ty "bool")) aNil))))))
theorem ok_is_whole {fa : Addr} {fd : FuncData} (F : Fun K "is_whole" "is_whole" st_is_whole fa fd) (B : Bts mg) :
    FnG P w K mg base false 1 fa [] (fun vs _ => spF ⟨K, mg⟩ 0 1 m_is_whole vs) :=
  fnx F sc_is_whole (fun _ _ _ _ _ _ us hl => match us, hl with | [_], _ => rfl) fun cdv A outer s H E hr ps G0 H0 pr =>
  (pxs_one (pxs_ret (px_and (px_bi cx_isi (pxa_cons (px_v (i := 0) rfl) (pxa_cons (px_ty (n := "int") B.int) pxa_nil)) B.isinstance) (px_one (px_not (px_bi cx_isi (pxa_cons (px_v (i := 0) rfl) (pxa_cons (px_ty (n := "bool") B.bool) pxa_nil)) B.isinstance))))))
abbrev st__is_section : Stmt := topS 26
theorem sc__is_section : FnScope ["value", "begin", "end", "lock"] ["value"] (defScope st__is_section) := ⟨rfl, rfl, rfl, by decide +kernel, rfl, by decide +kernel, by decide +kernel⟩
def m__is_section : Fn := fnB 4 0 1
  (sSeq (sIf (bOr (bNot (bOf (eBi fIsi (aCons (eV 0) (aCons (eC (.ty "tuple")) aNil))))) (bOf (eOp dNe (eBi fLen (aCons (eV 0) aNil)) (eC (.int 3))))) (sRet (eC (.bl false))) sNil)
  (sSeq (sAsg (eV 0) (tTup 3 (tCons (tName 1) (tCons (tName 2) (tCons (tName 3) tNil)))))
  (sRet (eAnd (eCall m_is_whole (aCons (eV 1) aNil)) (eAnd (eCall m_is_whole (aCons (eV 2) aNil)) (eCall m_is_name (aCons (eV 3) aNil)))))))
theorem ok__is_section {fa : Addr} {fd : FuncData} (F : Fun K "_is_section" "_is_section" st__is_section fa fd) (B : Bts mg) (c_is_name : CalX P w K mg base "is_name" false 1 0 ["value"] m_is_name) (c_is_whole : CalX P w K mg base "is_whole" false 1 0 ["value"] m_is_whole) :
    FnG P w K mg base false 2 fa [] (fun vs _ => spF ⟨K, mg⟩ 0 1 m__is_section vs) :=
  fnx F sc__is_section (fun _ _ _ _ _ _ us hl => match us, hl with | [_], _ => rfl) fun cdv A outer s H E hr ps G0 H0 pr =>
  (pxs_cons (pxs_if (Dx.PW.pxb (pxw_or (pxb_not (pxb_val (px_bi cx_isi (pxa_cons (px_v (i := 0) rfl) (pxa_cons (px_ty (n := "tuple") B.tuple) pxa_nil)) B.isinstance))) (pxw_one (pxb_cmp (ox_ne hr.units) (px_bi cx_len (pxa_cons (px_v (i := 0) rfl) pxa_nil) B.len) px_int (nomark _)) (.inr rfl)))) (pxs_one (pxs_ret px_bl)) pxs_nil)
  (pxs_cons (pxs_asg (ts := [1, 2, 3]) (px_v (i := 0) rfl) (pxg_tup rfl (pxg_cons (pxg_name (i := 1) sc__is_section.nd rfl (by first | exact Or.inl rfl | exact Or.inr rfl)) (pxg_cons (pxg_name (i := 2) sc__is_section.nd rfl (by first | exact Or.inl rfl | exact Or.inr rfl)) (pxg_cons (pxg_name (i := 3) sc__is_section.nd rfl (by first | exact Or.inl rfl | exact Or.inr rfl)) pxg_nil)))))
  (pxs_one (pxs_ret (px_and (px_call c_is_whole (hr.mono (by decide)) (pxa_cons (px_v (i := 1) rfl) pxa_nil) (takes_of rfl rfl rfl rfl)) (px_and (px_call c_is_whole (hr.mono (by decide)) (pxa_cons (px_v (i := 2) rfl) pxa_nil) (takes_of rfl rfl rfl rfl)) (px_one (px_call c_is_name (hr.mono (by decide)) (pxa_cons (px_v (i := 3) rfl) pxa_nil) (takes_of rfl rfl rfl rfl)))))))))
abbrev st__are_sections : Stmt := topS 27
theorem sc__are_sections : FnScope ["value", "longest", "free", "begin", "end", "_", "section"] ["value", "longest"] (defScope st__are_sections) := ⟨rfl, rfl, rfl, by decide +kernel, rfl, by decide +kernel, by decide +kernel⟩
def m__are_sections : Fn := fnB 7 0 2
  (sSeq (sIf (bOr (bNot (bOf (eBi fIsi (aCons (eV 0) (aCons (eC (.ty "tuple")) aNil))))) (bOf (eOp dGt (eBi fLen (aCons (eV 0) aNil)) (eC (.int 8))))) (sRet (eC (.bl false))) sNil)
  (sSeq (sIf (bNot (bOf (eBi fAll (aCons (eFrz (cLc (iSeq (eV 0)) (tName 6) bYes (eCall m__is_section (aCons (eV 6) aNil)) [6])) aNil)))) (sRet (eC (.bl false))) sNil)
  (sSeq (sAsg (eC (.int 0)) (tName 2))
  (sSeq (sFor (iSeq (eV 0)) (tTup 3 (tCons (tName 3) (tCons (tName 4) (tCons (tName 5) tNil)))) (sSeq (sIf (bNot (bOf (eChain3 dLe dLt dLt (eV 2) (eV 3) (eV 4) (eV 1)))) (sRet (eC (.bl false))) sNil)
  (sAsg (eV 4) (tName 2))))
  (sRet (eC (.bl true)))))))
theorem ok__are_sections {fa : Addr} {fd : FuncData} (F : Fun K "_are_sections" "_are_sections" st__are_sections fa fd) (B : Bts mg) (c__is_section : CalX P w K mg base "_is_section" false 2 0 ["value"] m__is_section) (k_MAX_SECTIONS : Kd ⟨K, mg⟩ "MAX_SECTIONS" (.int 8)) :
    FnG P w K mg base false 3 fa [] (fun vs _ => spF ⟨K, mg⟩ 0 2 m__are_sections vs) :=
  fnx F sc__are_sections (fun _ _ _ _ _ _ us hl => match us, hl with | [_, _], _ => rfl) fun cdv A outer s H E hr ps G0 H0 pr =>
  (pxs_cons (pxs_if (Dx.PW.pxb (pxw_or (pxb_not (pxb_val (px_bi cx_isi (pxa_cons (px_v (i := 0) rfl) (pxa_cons (px_ty (n := "tuple") B.tuple) pxa_nil)) B.isinstance))) (pxw_one (pxb_cmp ox_gt (px_bi cx_len (pxa_cons (px_v (i := 0) rfl) pxa_nil) B.len) (px_k k_MAX_SECTIONS) (nomark _)) (.inr rfl)))) (pxs_one (pxs_ret px_bl)) pxs_nil)
  (pxs_cons (pxs_if (pxb_not (pxb_val (px_bi (cx_all rfl) (pxa_cons (px_frz (pxf_lc (own := [("section", 6)]) (ts := [6]) rfl sc__are_sections.nd (pxi_seq (px_v (i := 0) rfl)) (blkOk_by (own := [("section", 6)]) (N := ["value", "longest", "free", "begin", "end", "_", "section"]) (sc := defScope st__are_sections) (by decide +kernel)) (by decide) (fun _ _ _ _ _ pr => (pxg_name (i := 6) sc__are_sections.nd rfl (by first | exact Or.inl rfl | exact Or.inr rfl))) (fun _ _ _ _ _ pr => pxt_nil) (fun _ _ _ _ _ pr => (px_call c__is_section (hr.mono (by decide)) (pxa_cons (px_v (i := 6) rfl) pxa_nil) takes0)))) pxa_nil) B.all))) (pxs_one (pxs_ret px_bl)) pxs_nil)
  (pxs_cons (pxs_set (i := 2) sc__are_sections.nd rfl (by first | exact Or.inl rfl | exact Or.inr rfl) px_int)
  (pxs_cons (pxs_for (ts := [3, 4, 5]) (passes_of rfl) rfl (pxi_seq (px_v (i := 0) rfl)) (pxg_tup rfl (pxg_cons (pxg_name (i := 3) sc__are_sections.nd rfl (by first | exact Or.inl rfl | exact Or.inr rfl)) (pxg_cons (pxg_name (i := 4) sc__are_sections.nd rfl (by first | exact Or.inl rfl | exact Or.inr rfl)) (pxg_cons (pxg_name (i := 5) sc__are_sections.nd rfl (by first | exact Or.inl rfl | exact Or.inr rfl)) pxg_nil)))) (pxs_cons (pxs_if (pxb_not (pxb_chain3 ox_le ox_lt ox_lt (px_v (i := 2) rfl) (px_v (i := 3) rfl) (px_v (i := 4) rfl) (px_v (i := 1) rfl))) (pxs_one (pxs_ret px_bl)) pxs_nil)
  (pxs_one (pxs_set (i := 2) sc__are_sections.nd rfl (by first | exact Or.inl rfl | exact Or.inr rfl) (px_v (i := 4) rfl)))))
  (pxs_one (pxs_ret px_bl))))))
abbrev st_is_between : Stmt := topS 12
theorem sc_is_between : FnScope ["value", "least", "most"] ["value", "least", "most"] (defScope st_is_between) := ⟨rfl, rfl, rfl, by decide +kernel, rfl, by decide +kernel, by decide +kernel⟩
def m_is_between : Fn := fnB 3 0 3
  (sRet (eAnd (eCall m_is_whole (aCons (eV 0) aNil)) (eChain dLe dLe (eV 1) (eV 0) (eV 2))))
theorem ok_is_between {fa : Addr} {fd : FuncData} (F : Fun K "is_between" "is_between" st_is_between fa fd) (B : Bts mg) (c_is_whole : CalX P w K mg base "is_whole" false 1 0 ["value"] m_is_whole) :
    FnG P w K mg base false 2 fa [] (fun vs _ => spF ⟨K, mg⟩ 0 3 m_is_between vs) :=
  fnx F sc_is_between (fun _ _ _ _ _ _ us hl => match us, hl with | [_, _, _], _ => rfl) fun cdv A outer s H E hr ps G0 H0 pr =>
  (pxs_one (pxs_ret (px_and (px_call c_is_whole (hr.mono (by decide)) (pxa_cons (px_v (i := 0) rfl) pxa_nil) (takes_of rfl rfl rfl rfl)) (px_one (px_chain ox_le ox_le (px_v (i := 1) rfl) (px_v (i := 0) rfl) (px_v (i := 2) rfl))))))
abbrev st__are_numbers : Stmt := topS 28
theorem sc__are_numbers : FnScope ["value", "number", "least", "most"] ["value"] (defScope st__are_numbers) := ⟨rfl, rfl, rfl, by decide +kernel, rfl, by decide +kernel, by decide +kernel⟩
def m__are_numbers : Fn := fnB 4 0 1
  (sSeq (sFor (iZip3 (aCons (eV 0) (aCons (eC (.tup [(.int 1), (.int 1), (.int 1), (.int 0)])) (aCons (eC (.tup [(.int 100), (.int 1000), (.int 20000), (.int 1000000)])) aNil)))) (tTup 3 (tCons (tName 1) (tCons (tName 2) (tCons (tName 3) tNil)))) (sIf (bNot (bOf (eCall m_is_between (aCons (eV 1) (aCons (eV 2) (aCons (eV 3) aNil)))))) (sRet (eC (.bl false))) sNil))
  (sRet (eC (.bl true))))
theorem ok__are_numbers {fa : Addr} {fd : FuncData} (F : Fun K "_are_numbers" "_are_numbers" st__are_numbers fa fd) (B : Bts mg) (k_GREATEST_NUMBERS : Kd ⟨K, mg⟩ "GREATEST_NUMBERS" (.tup [(.int 100), (.int 1000), (.int 20000), (.int 1000000)])) (k_LEAST_NUMBERS : Kd ⟨K, mg⟩ "LEAST_NUMBERS" (.tup [(.int 1), (.int 1), (.int 1), (.int 0)])) (c_is_between : CalX P w K mg base "is_between" false 2 0 ["value", "least", "most"] m_is_between) :
    FnG P w K mg base false 3 fa [] (fun vs _ => spF ⟨K, mg⟩ 0 1 m__are_numbers vs) :=
  fnx F sc__are_numbers (fun _ _ _ _ _ _ us hl => match us, hl with | [_], _ => rfl) fun cdv A outer s H E hr ps G0 H0 pr =>
  (pxs_cons (pxs_for (ts := [1, 2, 3]) (passes_of rfl) rfl (pxi_zip3 (pxa_cons (px_v (i := 0) rfl) (pxa_cons (px_k k_LEAST_NUMBERS) (pxa_cons (px_k k_GREATEST_NUMBERS) pxa_nil))) B.zip) (pxg_tup rfl (pxg_cons (pxg_name (i := 1) sc__are_numbers.nd rfl (by first | exact Or.inl rfl | exact Or.inr rfl)) (pxg_cons (pxg_name (i := 2) sc__are_numbers.nd rfl (by first | exact Or.inl rfl | exact Or.inr rfl)) (pxg_cons (pxg_name (i := 3) sc__are_numbers.nd rfl (by first | exact Or.inl rfl | exact Or.inr rfl)) pxg_nil)))) (pxs_one (pxs_if (pxb_not (pxb_val (px_call c_is_between (hr.mono (by decide)) (pxa_cons (px_v (i := 1) rfl) (pxa_cons (px_v (i := 2) rfl) (pxa_cons (px_v (i := 3) rfl) pxa_nil))) (takes_of rfl rfl rfl rfl)))) (pxs_one (pxs_ret px_bl)) pxs_nil)))
  (pxs_one (pxs_ret px_bl)))
abbrev st_is_task : Stmt := topS 29
theorem sc_is_task : FnScope ["value"] ["value"] (defScope st_is_task) := ⟨rfl, rfl, rfl, by decide +kernel, rfl, by decide +kernel, by decide +kernel⟩
def m_is_task : Fn := fnB 1 0 1
  (sSeq (sIf (bOr (bNot (bOf (eBi fIsi (aCons (eV 0) (aCons (eC (.ty "tuple")) aNil))))) (bOf (eOp dNe (eBi fLen (aCons (eV 0) aNil)) (eBi fLen (aCons (eC (.tup [(.str "name"), (.str "longest"), (.str "gap"), (.str "deadline"), (.str "room"), (.str "sections")])) aNil))))) (sRet (eC (.bl false))) sNil)
  (sSeq (sIf (bOr (bNot (bOf (eCall m_is_name (aCons (eOp dIx (eV 0) (eC (.int 0))) aNil)))) (bNot (bOf (eCall m__are_numbers (aCons (eSl (eV 0) (oSo (eC (.int 1))) (oSo (eC (.int 5)))) aNil))))) (sRet (eC (.bl false))) sNil)
  (sRet (eCall m__are_sections (aCons (eOp dIx (eV 0) (eC (.int 5))) (aCons (eOp dIx (eV 0) (eC (.int 1))) aNil))))))
theorem ok_is_task {fa : Addr} {fd : FuncData} (F : Fun K "is_task" "is_task" st_is_task fa fd) (B : Bts mg) (c__are_sections : CalX P w K mg base "_are_sections" false 3 0 ["value", "longest"] m__are_sections) (k_LONGEST : Kd ⟨K, mg⟩ "LONGEST" (.int 1)) (k_SECTIONS : Kd ⟨K, mg⟩ "SECTIONS" (.int 5)) (c__are_numbers : CalX P w K mg base "_are_numbers" false 3 0 ["value"] m__are_numbers) (c_is_name : CalX P w K mg base "is_name" false 1 0 ["value"] m_is_name) (k_NAME : Kd ⟨K, mg⟩ "NAME" (.int 0)) (k_FIELDS : Kd ⟨K, mg⟩ "FIELDS" (.tup [(.str "name"), (.str "longest"), (.str "gap"), (.str "deadline"), (.str "room"), (.str "sections")])) :
    FnG P w K mg base false 4 fa [] (fun vs _ => spF ⟨K, mg⟩ 0 1 m_is_task vs) :=
  fnx F sc_is_task (fun _ _ _ _ _ _ us hl => match us, hl with | [_], _ => rfl) fun cdv A outer s H E hr ps G0 H0 pr =>
  (pxs_cons (pxs_if (Dx.PW.pxb (pxw_or (pxb_not (pxb_val (px_bi cx_isi (pxa_cons (px_v (i := 0) rfl) (pxa_cons (px_ty (n := "tuple") B.tuple) pxa_nil)) B.isinstance))) (pxw_one (pxb_cmp (ox_ne hr.units) (px_bi cx_len (pxa_cons (px_v (i := 0) rfl) pxa_nil) B.len) (px_bi cx_len (pxa_cons (px_k k_FIELDS) pxa_nil) B.len) (nomark _)) (.inr rfl)))) (pxs_one (pxs_ret px_bl)) pxs_nil)
  (pxs_cons (pxs_if (Dx.PW.pxb (pxw_or (pxb_not (pxb_val (px_call c_is_name (hr.mono (by decide)) (pxa_cons (px_ix (px_v (i := 0) rfl) (px_k k_NAME) (hu1 hr)) pxa_nil) (takes_of rfl rfl rfl rfl)))) (pxw_one (pxb_not (pxb_val (px_call c__are_numbers (hr.mono (by decide)) (pxa_cons (px_sl (px_v (i := 0) rfl) (pxo_so (px_k k_LONGEST)) (pxo_so (px_k k_SECTIONS))) pxa_nil) (takes_of rfl rfl rfl rfl)))) (.inr rfl)))) (pxs_one (pxs_ret px_bl)) pxs_nil)
  (pxs_one (pxs_ret (px_call c__are_sections (hr.mono (by decide)) (pxa_cons (px_ix (px_v (i := 0) rfl) (px_k k_SECTIONS) (hu1 hr)) (pxa_cons (px_ix (px_v (i := 0) rfl) (px_k k_LONGEST) (hu1 hr)) pxa_nil)) (takes_of rfl rfl rfl rfl))))))
abbrev st_check_task : Stmt := topS 30
theorem sc_check_task : FnScope ["task"] ["task"] (defScope st_check_task) := ⟨rfl, rfl, rfl, by decide +kernel, rfl, by decide +kernel, by decide +kernel⟩
def m_check_task : Fn := fnB 1 0 1
  (sIf (bNot (bOf (eCall m_is_task (aCons (eV 0) aNil)))) (sRaise "InvalidTask") sNil)
theorem ok_check_task {fa : Addr} {fd : FuncData} (F : Fun K "check_task" "check_task" st_check_task fa fd) (B : Bts mg) (c_is_task : CalX P w K mg base "is_task" false 4 0 ["value"] m_is_task) (x_InvalidTask : MkX K mg "InvalidTask") :
    FnG P w K mg base false 5 fa [] (fun vs _ => spF ⟨K, mg⟩ 0 1 m_check_task vs) :=
  fnx F sc_check_task (fun _ _ _ _ _ _ us hl => match us, hl with | [_], _ => rfl) fun cdv A outer s H E hr ps G0 H0 pr =>
  (pxs_one (pxs_if (pxb_not (pxb_val (px_call c_is_task (hr.mono (by decide)) (pxa_cons (px_v (i := 0) rfl) pxa_nil) (takes_of rfl rfl rfl rfl)))) (pxs_one (pxs_raise x_InvalidTask (takes_of rfl rfl rfl rfl) rfl)) pxs_nil))
abbrev st_section_lengths : Stmt := topS 31
theorem sc_section_lengths : FnScope ["task", "lengths", "begin", "end", "lock"] ["task"] (defScope st_section_lengths) := ⟨rfl, rfl, rfl, by decide +kernel, rfl, by decide +kernel, by decide +kernel⟩
def m_section_lengths : Fn := fnB 5 0 1
  (sSeq (sExpr (eCall m_check_task (aCons (eV 0) aNil)))
  (sSeq (sOwn 1 cDic0)
  (sSeq (sFor (iSeq (eOp dIx (eV 0) (eC (.int 5)))) (tTup 3 (tCons (tName 2) (tCons (tName 3) (tCons (tName 4) tNil)))) (sPutD 1 (eV 4) (eBi fMax (aCons (eOp dSub (eV 3) (eV 2)) (aCons (eDat 1 (eGet2 (eV 1) (eV 4) (eC (.int 0))) (eGetO2 1 (eV 4) (eC (.int 0)))) aNil)))))
  (sRet (eFrz (cDc (iSeq (eFrz (cBi lSortedX (aCons (eV 1) aNil)))) (tName 4) bYes (eV 4) (eDat 1 (eOp dIx (eV 1) (eV 4)) (eIxO 1 (eV 4))) [4]))))))
theorem ok_section_lengths {fa : Addr} {fd : FuncData} (F : Fun K "section_lengths" "section_lengths" st_section_lengths fa fd) (B : Bts mg) (k_SECTIONS : Kd ⟨K, mg⟩ "SECTIONS" (.int 5)) (c_check_task : CalX P w K mg base "check_task" false 5 0 ["task"] m_check_task) :
    FnG P w K mg base false 6 fa [] (fun vs _ => spF ⟨K, mg⟩ 0 1 m_section_lengths vs) :=
  fnx F sc_section_lengths (fun _ _ _ _ _ _ us hl => match us, hl with | [_], _ => rfl) fun cdv A outer s H E hr ps G0 H0 pr =>
  (pxs_cons (pxs_expr (px_call c_check_task (hr.mono (by decide)) (pxa_cons (px_v (i := 0) rfl) pxa_nil) (takes_of rfl rfl rfl rfl)))
  (pxs_cons (pxs_own (i := 1) sc_section_lengths.nd rfl (by first | exact Or.inl rfl | exact Or.inr rfl) pxf_dic0)
  (pxs_cons (pxs_for (ts := [2, 3, 4]) (passes_of rfl) rfl (pxi_seq (px_ix (px_v (i := 0) rfl) (px_k k_SECTIONS) (hu1 hr))) (pxg_tup rfl (pxg_cons (pxg_name (i := 2) sc_section_lengths.nd rfl (by first | exact Or.inl rfl | exact Or.inr rfl)) (pxg_cons (pxg_name (i := 3) sc_section_lengths.nd rfl (by first | exact Or.inl rfl | exact Or.inr rfl)) (pxg_cons (pxg_name (i := 4) sc_section_lengths.nd rfl (by first | exact Or.inl rfl | exact Or.inr rfl)) pxg_nil)))) (pxs_one (pxs_putD (i := 1) rfl (hu1 hr) (px_v (i := 4) rfl) (px_bi (cx_max rfl) (pxa_cons (px_op ox_sub (px_v (i := 3) rfl) (px_v (i := 2) rfl)) (pxa_cons (px_dat (px_get2 (hu1 hr) (px_v (i := 1) rfl) (px_v (i := 4) rfl) px_int ⟨rfl, rfl, rfl, rfl⟩) (px_getO2 (i := 1) rfl (hu1 hr) (px_v (i := 4) rfl) px_int ⟨rfl, rfl, rfl, rfl⟩)) pxa_nil)) B.max))))
  (pxs_one (pxs_ret (px_frz (pxf_dc (own := [("lock", 4)]) (ts := [4]) rfl sc_section_lengths.nd (pxi_seq (px_frz (pxf_bi (cf_sortedX rfl) (pxa_cons (px_v (i := 1) rfl) pxa_nil) B.sorted))) (blkOk_by (own := [("lock", 4)]) (N := ["task", "lengths", "begin", "end", "lock"]) (sc := defScope st_section_lengths) (by decide +kernel)) (by decide) (fun _ _ _ _ _ pr => (pxg_name (i := 4) sc_section_lengths.nd rfl (by first | exact Or.inl rfl | exact Or.inr rfl))) (fun _ _ _ _ _ pr => pxt_nil) (fun _ _ _ _ _ pr => (px_v (i := 4) rfl)) (fun _ _ _ _ _ pr => (px_dat (px_ix (px_v (i := 1) rfl) (px_v (i := 4) rfl) (hu1 hr)) (px_ixO (i := 1) rfl (px_v (i := 4) rfl) (hu1 hr)))))))))))
abbrev st__is_harder_task : Stmt := topS 39
theorem sc__is_harder_task : FnScope ["task", "other", "lengths", "lock", "ticks"] ["task", "other"] (defScope st__is_harder_task) := ⟨rfl, rfl, rfl, by decide +kernel, rfl, by decide +kernel, by decide +kernel⟩
def m__is_harder_task : Fn := fnB 5 0 2
  (sSeq (sIf (bOr (bOf (eOp dLt (eOp dIx (eV 0) (eC (.int 1))) (eOp dIx (eV 1) (eC (.int 1))))) (bOf (eOp dLt (eOp dIx (eV 0) (eC (.int 4))) (eOp dIx (eV 1) (eC (.int 4)))))) (sRet (eC (.bl false))) sNil)
  (sSeq (sIf (bOr (bOf (eOp dGt (eOp dIx (eV 0) (eC (.int 2))) (eOp dIx (eV 1) (eC (.int 2))))) (bOf (eOp dGt (eOp dIx (eV 0) (eC (.int 3))) (eOp dIx (eV 1) (eC (.int 3)))))) (sRet (eC (.bl false))) sNil)
  (sSeq (sAsg (eCall m_section_lengths (aCons (eV 0) aNil)) (tName 2))
  (sRet (eBi fAll (aCons (eFrz (cLc (iItms (eCall m_section_lengths (aCons (eV 1) aNil))) (tTup 2 (tCons (tName 3) (tCons (tName 4) tNil))) bYes (eOp dGe (eGet2 (eV 2) (eV 3) (eC (.int 0))) (eV 4)) [3, 4])) aNil))))))
theorem ok__is_harder_task {fa : Addr} {fd : FuncData} (F : Fun K "_is_harder_task" "_is_harder_task" st__is_harder_task fa fd) (B : Bts mg) (c_section_lengths : CalX P w K mg base "section_lengths" false 6 0 ["task"] m_section_lengths) (k_DEADLINE : Kd ⟨K, mg⟩ "DEADLINE" (.int 3)) (k_GAP : Kd ⟨K, mg⟩ "GAP" (.int 2)) (k_ROOM : Kd ⟨K, mg⟩ "ROOM" (.int 4)) (k_LONGEST : Kd ⟨K, mg⟩ "LONGEST" (.int 1)) :
    FnG P w K mg base false 7 fa [] (fun vs _ => spF ⟨K, mg⟩ 0 2 m__is_harder_task vs) :=
  fnx F sc__is_harder_task (fun _ _ _ _ _ _ us hl => match us, hl with | [_, _], _ => rfl) fun cdv A outer s H E hr ps G0 H0 pr =>
  (pxs_cons (pxs_if (Dx.PW.pxb (pxw_or (pxb_cmp ox_lt (px_ix (px_v (i := 0) rfl) (px_k k_LONGEST) (hu1 hr)) (px_ix (px_v (i := 1) rfl) (px_k k_LONGEST) (hu1 hr)) (nomark _)) (pxw_one (pxb_cmp ox_lt (px_ix (px_v (i := 0) rfl) (px_k k_ROOM) (hu1 hr)) (px_ix (px_v (i := 1) rfl) (px_k k_ROOM) (hu1 hr)) (nomark _)) (.inr rfl)))) (pxs_one (pxs_ret px_bl)) pxs_nil)
  (pxs_cons (pxs_if (Dx.PW.pxb (pxw_or (pxb_cmp ox_gt (px_ix (px_v (i := 0) rfl) (px_k k_GAP) (hu1 hr)) (px_ix (px_v (i := 1) rfl) (px_k k_GAP) (hu1 hr)) (nomark _)) (pxw_one (pxb_cmp ox_gt (px_ix (px_v (i := 0) rfl) (px_k k_DEADLINE) (hu1 hr)) (px_ix (px_v (i := 1) rfl) (px_k k_DEADLINE) (hu1 hr)) (nomark _)) (.inr rfl)))) (pxs_one (pxs_ret px_bl)) pxs_nil)
  (pxs_cons (pxs_set (i := 2) sc__is_harder_task.nd rfl (by first | exact Or.inl rfl | exact Or.inr rfl) (px_call c_section_lengths (hr.mono (by decide)) (pxa_cons (px_v (i := 0) rfl) pxa_nil) (takes_of rfl rfl rfl rfl)))
  (pxs_one (pxs_ret (px_bi (cx_all rfl) (pxa_cons (px_frz (pxf_lc (own := [("lock", 3), ("ticks", 4)]) (ts := [3, 4]) rfl sc__is_harder_task.nd (pxi_items (px_call c_section_lengths (hr.mono (by decide)) (pxa_cons (px_v (i := 1) rfl) pxa_nil) (takes_of rfl rfl rfl rfl))) (blkOk_by (own := [("lock", 3), ("ticks", 4)]) (N := ["task", "other", "lengths", "lock", "ticks"]) (sc := defScope st__is_harder_task) (by decide +kernel)) (by decide) (fun _ _ _ _ _ pr => (pxg_tup rfl (pxg_cons (pxg_name (i := 3) sc__is_harder_task.nd rfl (by first | exact Or.inl rfl | exact Or.inr rfl)) (pxg_cons (pxg_name (i := 4) sc__is_harder_task.nd rfl (by first | exact Or.inl rfl | exact Or.inr rfl)) pxg_nil)))) (fun _ _ _ _ _ pr => pxt_nil) (fun _ _ _ _ _ pr => (px_cmp ox_ge (px_get2 (hu1 hr) (px_v (i := 2) rfl) (px_v (i := 3) rfl) px_int ⟨rfl, rfl, rfl, rfl⟩) (px_v (i := 4) rfl) (nomark _))))) pxa_nil) B.all))))))
abbrev st_Tasks___contains__ : Stmt := mthS (topS 36) 20
theorem sc_Tasks___contains__ : FnScope ["self", "value"] ["self", "value"] (defScope st_Tasks___contains__) := ⟨rfl, rfl, rfl, by decide +kernel, rfl, by decide +kernel, by decide +kernel⟩
def m_Tasks___contains__ : Fn := fnB 2 0 2
  (sRet (eAnd (eBi fIsi (aCons (eV 1) (aCons (eC (.ty "str")) aNil))) (eOp (dIn false) (eV 1) (eFld ["Tasks"] "_urgencies" (eV 0)))))
theorem ok_Tasks___contains__ {fa : Addr} {fd : FuncData} (F : Fun K "__contains__" "Tasks.__contains__" st_Tasks___contains__ fa fd) (B : Bts mg) (f_Tasks__urgencies : FldD ⟨K, mg⟩ "Tasks" "_urgencies") :
    FnG P w K mg base false 1 fa [] (fun vs _ => spF ⟨K, mg⟩ 0 2 m_Tasks___contains__ vs) :=
  fnx F sc_Tasks___contains__ (fun _ _ _ _ _ _ us hl => match us, hl with | [_, _], _ => rfl) fun cdv A outer s H E hr ps G0 H0 pr =>
  (pxs_one (pxs_ret (px_and (px_bi cx_isi (pxa_cons (px_v (i := 1) rfl) (pxa_cons (px_ty (n := "str") B.str) pxa_nil)) B.isinstance) (px_one (px_cmp (ox_in (hu65 hr)) (px_v (i := 1) rfl) (px_fld (all_cons f_Tasks__urgencies (fun _ z => nomatch z)) (px_v (i := 0) rfl)) (by rfl))))))
abbrev st_Tasks_urgency : Stmt := mthS (topS 36) 7
theorem sc_Tasks_urgency : FnScope ["self", "name"] ["self", "name"] (defScope st_Tasks_urgency) := ⟨rfl, rfl, rfl, by decide +kernel, rfl, by decide +kernel, by decide +kernel⟩
def m_Tasks_urgency : Fn := fnB 2 0 2
  (sSeq (sIf (bOf (eOp (dInU true [("Tasks", m_Tasks___contains__)]) (eV 1) (eV 0))) sNo sNil)
  (sRet (eOp dIx (eFld ["Tasks"] "_urgencies" (eV 0)) (eV 1))))
theorem ok_Tasks_urgency {fa : Addr} {fd : FuncData} (F : Fun K "urgency" "Tasks.urgency" st_Tasks_urgency fa fd) (B : Bts mg) (f_Tasks__urgencies : FldD ⟨K, mg⟩ "Tasks" "_urgencies") (S_contains_Tasks : AllS P w K mg base "__contains__" 1 2 [("Tasks", m_Tasks___contains__)]) :
    FnG P w K mg base false 3 fa [] (fun vs _ => spF ⟨K, mg⟩ 0 2 m_Tasks_urgency vs) :=
  fnx F sc_Tasks_urgency (fun _ _ _ _ _ _ us hl => match us, hl with | [_, _], _ => rfl) fun cdv A outer s H E hr ps G0 H0 pr =>
  (pxs_cons (pxs_if (pxb_cmp (ox_ninU S_contains_Tasks (hr.mono (c := false) (by decide)) (hu65 hr)) (px_v (i := 1) rfl) (px_v (i := 0) rfl) (by rfl)) (pxs_one pxs_no) pxs_nil)
  (pxs_one (pxs_ret (px_ix (px_fld (all_cons f_Tasks__urgencies (fun _ z => nomatch z)) (px_v (i := 0) rfl)) (px_v (i := 1) rfl) (hu1 hr)))))
abbrev st_Tasks___getitem__ : Stmt := mthS (topS 36) 21
theorem sc_Tasks___getitem__ : FnScope ["self", "name"] ["self", "name"] (defScope st_Tasks___getitem__) := ⟨rfl, rfl, rfl, by decide +kernel, rfl, by decide +kernel, by decide +kernel⟩
def m_Tasks___getitem__ : Fn := fnB 2 0 2
  (sRet (eOp dIx (eFld ["Tasks"] "_tasks" (eV 0)) (eMethU "urgency" [("Tasks", (m_Tasks_urgency []))] (eV 0) (aCons (eV 1) aNil))))
theorem ok_Tasks___getitem__ {fa : Addr} {fd : FuncData} (F : Fun K "__getitem__" "Tasks.__getitem__" st_Tasks___getitem__ fa fd) (B : Bts mg) (f_Tasks__tasks : FldD ⟨K, mg⟩ "Tasks" "_tasks") (M_urgency_Tasks : AllM P w K mg base "urgency" false 3 [("Tasks", (m_Tasks_urgency []))]) :
    FnG P w K mg base false 4 fa [] (fun vs _ => spF ⟨K, mg⟩ 0 2 m_Tasks___getitem__ vs) :=
  fnx F sc_Tasks___getitem__ (fun _ _ _ _ _ _ us hl => match us, hl with | [_, _], _ => rfl) fun cdv A outer s H E hr ps G0 H0 pr =>
  (pxs_one (pxs_ret (px_ix (px_fld (all_cons f_Tasks__tasks (fun _ z => nomatch z)) (px_v (i := 0) rfl)) (px_methU M_urgency_Tasks (hr.mono (c := false) (by decide)) (px_v (i := 0) rfl) (pxa_cons (px_v (i := 1) rfl) pxa_nil) (takes_of rfl rfl rfl rfl)) (hu1 hr))))
abbrev st_Tasks_names : Stmt := mthS (topS 36) 4
theorem sc_Tasks_names : FnScope ["self"] ["self"] (defScope st_Tasks_names) := ⟨rfl, rfl, rfl, by decide +kernel, rfl, by decide +kernel, by decide +kernel⟩
def m_Tasks_names : Fn := fnB 1 0 1
  (sRet (eFld ["Tasks"] "_names" (eV 0)))
theorem ok_Tasks_names {fa : Addr} {fd : FuncData} (F : Fun K "names" "Tasks.names" st_Tasks_names fa fd) (B : Bts mg) (f_Tasks__names : FldD ⟨K, mg⟩ "Tasks" "_names") :
    FnG P w K mg base false 1 fa [] (fun vs _ => spF ⟨K, mg⟩ 0 1 m_Tasks_names vs) :=
  fnx F sc_Tasks_names (fun _ _ _ _ _ _ us hl => match us, hl with | [_], _ => rfl) fun cdv A outer s H E hr ps G0 H0 pr =>
  (pxs_one (pxs_ret (px_fld (all_cons f_Tasks__names (fun _ z => nomatch z)) (px_v (i := 0) rfl))))
abbrev st_check_tasks : Stmt := topS 37
theorem sc_check_tasks : FnScope ["tasks"] ["tasks"] (defScope st_check_tasks) := ⟨rfl, rfl, rfl, by decide +kernel, rfl, by decide +kernel, by decide +kernel⟩
def m_check_tasks : Fn := fnB 1 0 1
  (sIf (bNot (bOf (eBi (fIsiO "Tasks") (aCons (eV 0) (aCons (eC (.cls "Tasks")) aNil))))) (sRaise "InvalidTasks") sNil)
theorem ok_check_tasks {fa : Addr} {fd : FuncData} (F : Fun K "check_tasks" "check_tasks" st_check_tasks fa fd) (B : Bts mg) (n_Tasks : ClsF K mg "Tasks") (v_Tasks : Kd ⟨K, mg⟩ "Tasks" (.cls "Tasks")) (x_InvalidTasks : MkX K mg "InvalidTasks") :
    FnG P w K mg base false 1 fa [] (fun vs _ => spF ⟨K, mg⟩ 0 1 m_check_tasks vs) :=
  fnx F sc_check_tasks (fun _ _ _ _ _ _ us hl => match us, hl with | [_], _ => rfl) fun cdv A outer s H E hr ps G0 H0 pr =>
  (pxs_one (pxs_if (pxb_not (pxb_val (px_bi (cx_isiO n_Tasks) (pxa_cons (px_v (i := 0) rfl) (pxa_cons (px_k v_Tasks) pxa_nil)) B.isinstance))) (pxs_one (pxs_raise x_InvalidTasks (takes_of rfl rfl rfl rfl) rfl)) pxs_nil))
abbrev st_is_harder : Stmt := topS 40
theorem sc_is_harder : FnScope ["tasks", "other", "task", "name"] ["tasks", "other"] (defScope st_is_harder) := ⟨rfl, rfl, rfl, by decide +kernel, rfl, by decide +kernel, by decide +kernel⟩
def m_is_harder : Fn := fnB 4 0 2
  (sSeq (sExpr (eCall m_check_tasks (aCons (eV 0) aNil)))
  (sSeq (sExpr (eCall m_check_tasks (aCons (eV 1) aNil)))
  (sSeq (sIf (bOf (eOp dNe (eBi fTuple (aCons (eFrz (cLc (iSeq (ePropU [("Tasks", (m_Tasks_names []))] (eV 0))) (tName 3) (bOf (eOp (dInU false [("Tasks", m_Tasks___contains__)]) (eV 3) (eV 1))) (eV 3) [3])) aNil)) (ePropU [("Tasks", (m_Tasks_names []))] (eV 1)))) (sRet (eC (.bl false))) sNil)
  (sRet (eBi fAll (aCons (eFrz (cLc (iSeq (ePropU [("Tasks", (m_Tasks_tasks []))] (eV 1))) (tName 2) bYes (eCall m__is_harder_task (aCons (eOp (dIxU [("Tasks", m_Tasks___getitem__)]) (eV 0) (eOp dIx (eV 2) (eC (.int 0)))) (aCons (eV 2) aNil))) [2])) aNil))))))
theorem ok_is_harder {fa : Addr} {fd : FuncData} (F : Fun K "is_harder" "is_harder" st_is_harder fa fd) (B : Bts mg) (P_tasks_Tasks : AllP P w K mg base "tasks" 1 [("Tasks", (m_Tasks_tasks []))]) (c__is_harder_task : CalX P w K mg base "_is_harder_task" false 7 0 ["task", "other"] m__is_harder_task) (k_NAME : Kd ⟨K, mg⟩ "NAME" (.int 0)) (S_getitem_Tasks : AllS P w K mg base "__getitem__" 4 2 [("Tasks", m_Tasks___getitem__)]) (N_getitem_Tasks : AllFn K mg "__getitem__" ["Tasks"]) (P_names_Tasks : AllP P w K mg base "names" 1 [("Tasks", (m_Tasks_names []))]) (S_contains_Tasks : AllS P w K mg base "__contains__" 1 2 [("Tasks", m_Tasks___contains__)]) (c_check_tasks : CalX P w K mg base "check_tasks" false 1 0 ["tasks"] m_check_tasks) :
    FnG P w K mg base false 8 fa [] (fun vs _ => spF ⟨K, mg⟩ 0 2 m_is_harder vs) :=
  fnx F sc_is_harder (fun _ _ _ _ _ _ us hl => match us, hl with | [_, _], _ => rfl) fun cdv A outer s H E hr ps G0 H0 pr =>
  (pxs_cons (pxs_expr (px_call c_check_tasks (hr.mono (by decide)) (pxa_cons (px_v (i := 0) rfl) pxa_nil) (takes_of rfl rfl rfl rfl)))
  (pxs_cons (pxs_expr (px_call c_check_tasks (hr.mono (by decide)) (pxa_cons (px_v (i := 1) rfl) pxa_nil) (takes_of rfl rfl rfl rfl)))
  (pxs_cons (pxs_if (pxb_cmp (ox_ne hr.units) (px_bt cx_tuple (pxa_cons (px_frz (pxf_lc (own := [("name", 3)]) (ts := [3]) rfl sc_is_harder.nd (pxi_seq (px_propU P_names_Tasks (hr.mono (c := false) (by decide)) (px_v (i := 0) rfl))) (blkOk_by (own := [("name", 3)]) (N := ["tasks", "other", "task", "name"]) (sc := defScope st_is_harder) (by decide +kernel)) (by decide) (fun _ _ _ _ _ pr => (pxg_name (i := 3) sc_is_harder.nd rfl (by first | exact Or.inl rfl | exact Or.inr rfl))) (fun _ _ _ _ _ pr => (pxt_one (pxb_cmp (ox_inU S_contains_Tasks (hr.mono (c := false) (by decide)) (hu65 hr)) (px_v (i := 3) rfl) (px_v (i := 1) rfl) (by rfl)))) (fun _ _ _ _ _ pr => (px_v (i := 3) rfl)))) pxa_nil) B.tuple) (px_propU P_names_Tasks (hr.mono (c := false) (by decide)) (px_v (i := 1) rfl)) (nomark _)) (pxs_one (pxs_ret px_bl)) pxs_nil)
  (pxs_one (pxs_ret (px_bi (cx_all rfl) (pxa_cons (px_frz (pxf_lc (own := [("task", 2)]) (ts := [2]) rfl sc_is_harder.nd (pxi_seq (px_propU P_tasks_Tasks (hr.mono (c := false) (by decide)) (px_v (i := 1) rfl))) (blkOk_by (own := [("task", 2)]) (N := ["tasks", "other", "task", "name"]) (sc := defScope st_is_harder) (by decide +kernel)) (by decide) (fun _ _ _ _ _ pr => (pxg_name (i := 2) sc_is_harder.nd rfl (by first | exact Or.inl rfl | exact Or.inr rfl))) (fun _ _ _ _ _ pr => pxt_nil) (fun _ _ _ _ _ pr => (px_call c__is_harder_task (hr.mono (by decide)) (pxa_cons (px_ixU S_getitem_Tasks (allFn_ix N_getitem_Tasks) (hr.mono (c := false) (by decide)) (px_v (i := 0) rfl) (px_ix (px_v (i := 2) rfl) (px_k k_NAME) (hu1 hr))) (pxa_cons (px_v (i := 2) rfl) pxa_nil)) takes0)))) pxa_nil) B.all))))))
abbrev st__ceilings : Stmt := topS 34
theorem sc__ceilings : FnScope ["tasks", "found", "urgency", "task", "_", "lock"] ["tasks"] (defScope st__ceilings) := ⟨rfl, rfl, rfl, by decide +kernel, rfl, by decide +kernel, by decide +kernel⟩
def m__ceilings : Fn := fnB 6 0 1
  (sSeq (sOwn 1 cDic0)
  (sSeq (sFor (iEnumT (aCons (eV 0) aNil)) (tTup 2 (tCons (tName 2) (tCons (tName 3) tNil))) (sFor (iSeq (eOp dIx (eV 3) (eC (.int 5)))) (tTup 3 (tCons (tName 4) (tCons (tName 4) (tCons (tName 5) tNil)))) (sPutD 1 (eV 5) (eV 2))))
  (sRet (eFrz (cDc (iSeq (eFrz (cBi lSortedX (aCons (eV 1) aNil)))) (tName 5) bYes (eV 5) (eDat 1 (eOp dIx (eV 1) (eV 5)) (eIxO 1 (eV 5))) [5])))))
theorem ok__ceilings {fa : Addr} {fd : FuncData} (F : Fun K "_ceilings" "_ceilings" st__ceilings fa fd) (B : Bts mg) (k_SECTIONS : Kd ⟨K, mg⟩ "SECTIONS" (.int 5)) :
    FnG P w K mg base false 1 fa [] (fun vs _ => spF ⟨K, mg⟩ 0 1 m__ceilings vs) :=
  fnx F sc__ceilings (fun _ _ _ _ _ _ us hl => match us, hl with | [_], _ => rfl) fun cdv A outer s H E hr ps G0 H0 pr =>
  (pxs_cons (pxs_own (i := 1) sc__ceilings.nd rfl (by first | exact Or.inl rfl | exact Or.inr rfl) pxf_dic0)
  (pxs_cons (pxs_for (ts := [2, 3]) (passes_of rfl) rfl (pxi_enumT (pxa_cons (px_v (i := 0) rfl) pxa_nil) B.enumerate) (pxg_tup rfl (pxg_cons (pxg_name (i := 2) sc__ceilings.nd rfl (by first | exact Or.inl rfl | exact Or.inr rfl)) (pxg_cons (pxg_name (i := 3) sc__ceilings.nd rfl (by first | exact Or.inl rfl | exact Or.inr rfl)) pxg_nil))) (pxs_one (pxs_for (ts := [4, 4, 5]) (passes_of rfl) rfl (pxi_seq (px_ix (px_v (i := 3) rfl) (px_k k_SECTIONS) (hu1 hr))) (pxg_tup rfl (pxg_cons (pxg_name (i := 4) sc__ceilings.nd rfl (by first | exact Or.inl rfl | exact Or.inr rfl)) (pxg_cons (pxg_name (i := 4) sc__ceilings.nd rfl (by first | exact Or.inl rfl | exact Or.inr rfl)) (pxg_cons (pxg_name (i := 5) sc__ceilings.nd rfl (by first | exact Or.inl rfl | exact Or.inr rfl)) pxg_nil)))) (pxs_one (pxs_putD (i := 1) rfl (hu1 hr) (px_v (i := 5) rfl) (px_v (i := 2) rfl))))))
  (pxs_one (pxs_ret (px_frz (pxf_dc (own := [("lock", 5)]) (ts := [5]) rfl sc__ceilings.nd (pxi_seq (px_frz (pxf_bi (cf_sortedX rfl) (pxa_cons (px_v (i := 1) rfl) pxa_nil) B.sorted))) (blkOk_by (own := [("lock", 5)]) (N := ["tasks", "found", "urgency", "task", "_", "lock"]) (sc := defScope st__ceilings) (by decide +kernel)) (by decide) (fun _ _ _ _ _ pr => (pxg_name (i := 5) sc__ceilings.nd rfl (by first | exact Or.inl rfl | exact Or.inr rfl))) (fun _ _ _ _ _ pr => pxt_nil) (fun _ _ _ _ _ pr => (px_v (i := 5) rfl)) (fun _ _ _ _ _ pr => (px_dat (px_ix (px_v (i := 1) rfl) (px_v (i := 5) rfl) (hu1 hr)) (px_ixO (i := 1) rfl (px_v (i := 5) rfl) (hu1 hr))))))))))
abbrev st__share : Stmt := topS 33
theorem sc__share : FnScope ["tasks", "task", "common", "upper", "lower"] ["tasks"] (defScope st__share) := ⟨rfl, rfl, rfl, by decide +kernel, rfl, by decide +kernel, by decide +kernel⟩
def m__share : Fn := fnB 5 0 1
  (sSeq (sAsg (eTup (aCons (eC (.int 0)) (aCons (eC (.int 1)) aNil))) (tTup 2 (tCons (tName 3) (tCons (tName 4) tNil))))
  (sSeq (sFor (iSeq (eV 0)) (tName 1) (sSeq (sAsg (eOp dAdd (eOp dMul (eV 3) (eOp dIx (eV 1) (eC (.int 2)))) (eOp dMul (eOp dIx (eV 1) (eC (.int 1))) (eV 4))) (tName 3))
  (sAsg (eOp dMul (eV 4) (eOp dIx (eV 1) (eC (.int 2)))) (tName 4))))
  (sSeq (sAsg (eBi fGcd (aCons (eV 3) (aCons (eV 4) aNil))) (tName 2))
  (sRet (eTup (aCons (eOp dDiv (eV 3) (eV 2)) (aCons (eOp dDiv (eV 4) (eV 2)) aNil)))))))
theorem ok__share {fa : Addr} {fd : FuncData} (F : Fun K "_share" "_share" st__share fa fd) (B : Bts mg) (g_gcd : mg "gcd" = some (.builtin "math.gcd")) (k_GAP : Kd ⟨K, mg⟩ "GAP" (.int 2)) (k_LONGEST : Kd ⟨K, mg⟩ "LONGEST" (.int 1)) :
    FnG P w K mg base false 1 fa [] (fun vs _ => spF ⟨K, mg⟩ 0 1 m__share vs) :=
  fnx F sc__share (fun _ _ _ _ _ _ us hl => match us, hl with | [_], _ => rfl) fun cdv A outer s H E hr ps G0 H0 pr =>
  (pxs_cons (pxs_asg (ts := [3, 4]) (px_tup (pxa_cons px_int (pxa_cons px_int pxa_nil))) (pxg_tup rfl (pxg_cons (pxg_name (i := 3) sc__share.nd rfl (by first | exact Or.inl rfl | exact Or.inr rfl)) (pxg_cons (pxg_name (i := 4) sc__share.nd rfl (by first | exact Or.inl rfl | exact Or.inr rfl)) pxg_nil))))
  (pxs_cons (pxs_for (ts := [1]) (passes_of rfl) rfl (pxi_seq (px_v (i := 0) rfl)) (pxg_name (i := 1) sc__share.nd rfl (by first | exact Or.inl rfl | exact Or.inr rfl)) (pxs_cons (pxs_set (i := 3) sc__share.nd rfl (by first | exact Or.inl rfl | exact Or.inr rfl) (px_op ox_add (px_op ox_mul (px_v (i := 3) rfl) (px_ix (px_v (i := 1) rfl) (px_k k_GAP) (hu1 hr))) (px_op ox_mul (px_ix (px_v (i := 1) rfl) (px_k k_LONGEST) (hu1 hr)) (px_v (i := 4) rfl))))
  (pxs_one (pxs_set (i := 4) sc__share.nd rfl (by first | exact Or.inl rfl | exact Or.inr rfl) (px_op ox_mul (px_v (i := 4) rfl) (px_ix (px_v (i := 1) rfl) (px_k k_GAP) (hu1 hr)))))))
  (pxs_cons (pxs_set (i := 2) sc__share.nd rfl (by first | exact Or.inl rfl | exact Or.inr rfl) (px_bim cx_gcd (pxa_cons (px_v (i := 3) rfl) (pxa_cons (px_v (i := 4) rfl) pxa_nil)) g_gcd))
  (pxs_one (pxs_ret (px_tup (pxa_cons (px_op ox_div (px_v (i := 3) rfl) (px_v (i := 2) rfl)) (pxa_cons (px_op ox_div (px_v (i := 4) rfl) (px_v (i := 2) rfl)) pxa_nil))))))))
abbrev st__check_rows : Stmt := topS 35
theorem sc__check_rows : FnScope ["tasks", "task"] ["tasks"] (defScope st__check_rows) := ⟨rfl, rfl, rfl, by decide +kernel, rfl, by decide +kernel, by decide +kernel⟩
def m__check_rows : Fn := fnB 2 0 1
  (sSeq (sIf (bNot (bOf (eBi fAll (aCons (eFrz (cLc (iSeq (eV 0)) (tName 1) bYes (eCall m_is_task (aCons (eV 1) aNil)) [1])) aNil)))) (sRaise "InvalidTasks") sNil)
  (sIf (bOf (eOp dLt (eLenS (iSeq (eV 0)) (tName 1) bYes (eOp dIx (eV 1) (eC (.int 0))) [1]) (eBi fLen (aCons (eV 0) aNil)))) (sRaise "InvalidTasks") sNil))
theorem ok__check_rows {fa : Addr} {fd : FuncData} (F : Fun K "_check_rows" "_check_rows" st__check_rows fa fd) (B : Bts mg) (k_NAME : Kd ⟨K, mg⟩ "NAME" (.int 0)) (x_InvalidTasks : MkX K mg "InvalidTasks") (c_is_task : CalX P w K mg base "is_task" false 4 0 ["value"] m_is_task) :
    FnG P w K mg base false 5 fa [] (fun vs _ => spF ⟨K, mg⟩ 0 1 m__check_rows vs) :=
  fnx F sc__check_rows (fun _ _ _ _ _ _ us hl => match us, hl with | [_], _ => rfl) fun cdv A outer s H E hr ps G0 H0 pr =>
  (pxs_cons (pxs_if (pxb_not (pxb_val (px_bi (cx_all rfl) (pxa_cons (px_frz (pxf_lc (own := [("task", 1)]) (ts := [1]) rfl sc__check_rows.nd (pxi_seq (px_v (i := 0) rfl)) (blkOk_by (own := [("task", 1)]) (N := ["tasks", "task"]) (sc := defScope st__check_rows) (by decide +kernel)) (by decide) (fun _ _ _ _ _ pr => (pxg_name (i := 1) sc__check_rows.nd rfl (by first | exact Or.inl rfl | exact Or.inr rfl))) (fun _ _ _ _ _ pr => pxt_nil) (fun _ _ _ _ _ pr => (px_call c_is_task (hr.mono (by decide)) (pxa_cons (px_v (i := 1) rfl) pxa_nil) takes0)))) pxa_nil) B.all))) (pxs_one (pxs_raise x_InvalidTasks (takes_of rfl rfl rfl rfl) rfl)) pxs_nil)
  (pxs_one (pxs_if (pxb_cmp ox_lt (px_lenSc B.len (own := [("task", 1)]) (ts := [1]) rfl sc__check_rows.nd (pxi_seq (px_v (i := 0) rfl)) (blkOk_by (own := [("task", 1)]) (N := ["tasks", "task"]) (sc := defScope st__check_rows) (by decide +kernel)) (by decide) (fun _ _ _ _ _ pr => (pxg_name (i := 1) sc__check_rows.nd rfl (by first | exact Or.inl rfl | exact Or.inr rfl))) (fun _ _ _ _ _ pr => pxt_nil) (fun _ _ _ _ _ pr => (px_ix (px_v (i := 1) rfl) (px_k k_NAME) (hu1 hr)))) (px_bi cx_len (pxa_cons (px_v (i := 0) rfl) pxa_nil) B.len) (nomark _)) (pxs_one (pxs_raise x_InvalidTasks (takes_of rfl rfl rfl rfl) rfl)) pxs_nil)))
abbrev st_Tasks___init__ : Stmt := mthS (topS 36) 1
theorem sc_Tasks___init__ : FnScope ["self", "tasks", "upper", "lower", "task", "urgency", "name"] ["self", "tasks"] (defScope st_Tasks___init__) := ⟨rfl, rfl, rfl, by decide +kernel, rfl, by decide +kernel, by decide +kernel⟩
def m_Tasks___init__ : Fn := fnB 7 1 2
  (sSeq (sExpr (eCall m__check_rows (aCons (eV 1) aNil)))
  (sSeq (sIf (bOf (eOp dGt (eBi fLen (aCons (eV 1) aNil)) (eC (.int 10)))) sNo sNil)
  (sSeq (sAsg (eCall m__share (aCons (eV 1) aNil)) (tTup 2 (tCons (tName 2) (tCons (tName 3) tNil))))
  (sSeq (sIf (bOf (eOp dGt (eOp dMul (eC (.int 10)) (eV 2)) (eOp dMul (eC (.int 9)) (eV 3)))) sNo sNil)
  (sSeq (sFldO ["Tasks"] 0 "_tasks" (eV 1))
  (sSeq (sFldO ["Tasks"] 0 "_names" (eBi fTuple (aCons (eFrz (cLc (iSeq (eV 1)) (tName 4) bYes (eOp dIx (eV 4) (eC (.int 0))) [4])) aNil)))
  (sSeq (sFldO ["Tasks"] 0 "_urgencies" (eFrz (cDc (iEnumT (aCons (eFldO ["Tasks"] 0 "_names") aNil)) (tTup 2 (tCons (tName 5) (tCons (tName 6) tNil))) bYes (eV 6) (eV 5) [5, 6])))
  (sSeq (sFldO ["Tasks"] 0 "_load" (eTup (aCons (eV 2) (aCons (eV 3) aNil))))
  (sFldO ["Tasks"] 0 "_locks" (eCall m__ceilings (aCons (eV 1) aNil)))))))))))
def m_new_Tasks : Fn := fun cs ds => if 0 ≤ ds.length ∧ ds.length ≤ big then noC (m_Tasks___init__ cs (ds.take 0 ++ [.tup (ds.drop 0)])) else .no
theorem ok_new_Tasks {fa : Addr} {fd : FuncData} (F : Fun K "__init__" "Tasks.__init__" st_Tasks___init__ fa fd) (B : Bts mg) (f_Tasks__locks : FldD ⟨K, mg⟩ "Tasks" "_locks") (c__ceilings : CalX P w K mg base "_ceilings" false 1 0 ["tasks"] m__ceilings) (f_Tasks__load : FldD ⟨K, mg⟩ "Tasks" "_load") (f_Tasks__urgencies : FldD ⟨K, mg⟩ "Tasks" "_urgencies") (f_Tasks__names : FldD ⟨K, mg⟩ "Tasks" "_names") (k_NAME : Kd ⟨K, mg⟩ "NAME" (.int 0)) (f_Tasks__tasks : FldD ⟨K, mg⟩ "Tasks" "_tasks") (c__share : CalX P w K mg base "_share" false 1 0 ["tasks"] m__share) (V_Tasks_MAX_TASKS : CVs K mg "Tasks" "MAX_TASKS" (.int 10)) (c__check_rows : CalX P w K mg base "_check_rows" false 5 0 ["tasks"] m__check_rows) :
    FnG P w K mg base false 6 fa [] (spI ⟨K, mg⟩ m_new_Tasks) :=
  fnxI (qs := []) (pv := "tasks") F (s0 := "self") sc_Tasks___init__ (fun kV doc pm an cdv ct u0 us rest h => match us, h, rest with | [], _, [] => rfl | [], _, _ :: _ => rfl) (fun cdv A outer s H E hr ps G0 H0 pr =>
  (pxs_cons (pxs_expr (px_call c__check_rows (hr.mono (by decide)) (pxa_cons (px_v (i := 1) rfl) pxa_nil) (takes_of rfl rfl rfl rfl)))
  (pxs_cons (pxs_if (pxb_cmp ox_gt (px_bi cx_len (pxa_cons (px_v (i := 1) rfl) pxa_nil) B.len) (px_cval V_Tasks_MAX_TASKS) (nomark _)) (pxs_one pxs_no) pxs_nil)
  (pxs_cons (pxs_asg (ts := [2, 3]) (px_call c__share (hr.mono (by decide)) (pxa_cons (px_v (i := 1) rfl) pxa_nil) (takes_of rfl rfl rfl rfl)) (pxg_tup rfl (pxg_cons (pxg_name (i := 2) sc_Tasks___init__.nd rfl (by first | exact Or.inl rfl | exact Or.inr rfl)) (pxg_cons (pxg_name (i := 3) sc_Tasks___init__.nd rfl (by first | exact Or.inl rfl | exact Or.inr rfl)) pxg_nil))))
  (pxs_cons (pxs_if (pxb_cmp ox_gt (px_op ox_mul px_int (px_v (i := 2) rfl)) (px_op ox_mul px_int (px_v (i := 3) rfl)) (nomark _)) (pxs_one pxs_no) pxs_nil)
  (pxs_cons (pxs_fldO (i := 0) rfl (all_cons f_Tasks__tasks (fun _ z => nomatch z)) (px_v (i := 1) rfl))
  (pxs_cons (pxs_fldO (i := 0) rfl (all_cons f_Tasks__names (fun _ z => nomatch z)) (px_bt cx_tuple (pxa_cons (px_frz (pxf_lc (own := [("task", 4)]) (ts := [4]) rfl sc_Tasks___init__.nd (pxi_seq (px_v (i := 1) rfl)) (blkOk_by (own := [("task", 4)]) (N := ["self", "tasks", "upper", "lower", "task", "urgency", "name"]) (sc := defScope st_Tasks___init__) (by decide +kernel)) (by decide) (fun _ _ _ _ _ pr => (pxg_name (i := 4) sc_Tasks___init__.nd rfl (by first | exact Or.inl rfl | exact Or.inr rfl))) (fun _ _ _ _ _ pr => pxt_nil) (fun _ _ _ _ _ pr => (px_ix (px_v (i := 4) rfl) (px_k k_NAME) (hu1 hr))))) pxa_nil) B.tuple))
  (pxs_cons (pxs_fldO (i := 0) rfl (all_cons f_Tasks__urgencies (fun _ z => nomatch z)) (px_frz (pxf_dc (own := [("urgency", 5), ("name", 6)]) (ts := [5, 6]) rfl sc_Tasks___init__.nd (pxi_enumT (pxa_cons (px_fldO (i := 0) rfl (all_cons f_Tasks__names (fun _ z => nomatch z))) pxa_nil) B.enumerate) (blkOk_by (own := [("urgency", 5), ("name", 6)]) (N := ["self", "tasks", "upper", "lower", "task", "urgency", "name"]) (sc := defScope st_Tasks___init__) (by decide +kernel)) (by decide) (fun _ _ _ _ _ pr => (pxg_tup rfl (pxg_cons (pxg_name (i := 5) sc_Tasks___init__.nd rfl (by first | exact Or.inl rfl | exact Or.inr rfl)) (pxg_cons (pxg_name (i := 6) sc_Tasks___init__.nd rfl (by first | exact Or.inl rfl | exact Or.inr rfl)) pxg_nil)))) (fun _ _ _ _ _ pr => pxt_nil) (fun _ _ _ _ _ pr => (px_v (i := 6) rfl)) (fun _ _ _ _ _ pr => (px_v (i := 5) rfl)))))
  (pxs_cons (pxs_fldO (i := 0) rfl (all_cons f_Tasks__load (fun _ z => nomatch z)) (px_tup (pxa_cons (px_v (i := 2) rfl) (pxa_cons (px_v (i := 3) rfl) pxa_nil))))
  (pxs_one (pxs_fldO (i := 0) rfl (all_cons f_Tasks__locks (fun _ z => nomatch z)) (px_call c__ceilings (hr.mono (by decide)) (pxa_cons (px_v (i := 1) rfl) pxa_nil) (takes_of rfl rfl rfl rfl)))))))))))))
abbrev st_Tasks_of : Stmt := mthS (topS 36) 2
theorem sc_Tasks_of : FnScope ["cls", "tasks"] ["cls", "tasks"] (defScope st_Tasks_of) := ⟨rfl, rfl, rfl, by decide +kernel, rfl, by decide +kernel, by decide +kernel⟩
def m_Tasks_of : Fn := fnB 2 0 2
  (sSeq (sIf (bNot (bOf (eBi fIsi (aCons (eV 1) (aCons (eC (.ty "tuple")) aNil))))) (sRaise "InvalidTasks") sNil)
  (sRet (eFrz (cNewV 0 [("Tasks", m_new_Tasks)] (aStar (eV 1) aNil)))))
theorem ok_Tasks_of {fa : Addr} {fd : FuncData} (F : Fun K "of" "Tasks.of" st_Tasks_of fa fd) (B : Bts mg) (I_Tasks : CalI P w K mg base "Tasks" 6 m_new_Tasks) (x_InvalidTasks : MkX K mg "InvalidTasks") :
    FnG P w K mg base false 8 fa [] (fun vs _ => spF ⟨K, mg⟩ 0 2 m_Tasks_of vs) :=
  fnx F sc_Tasks_of (fun _ _ _ _ _ _ us hl => match us, hl with | [_, _], _ => rfl) fun cdv A outer s H E hr ps G0 H0 pr =>
  (pxs_cons (pxs_if (pxb_not (pxb_val (px_bi cx_isi (pxa_cons (px_v (i := 1) rfl) (pxa_cons (px_ty (n := "tuple") B.tuple) pxa_nil)) B.isinstance))) (pxs_one (pxs_raise x_InvalidTasks (takes_of rfl rfl rfl rfl) rfl)) pxs_nil)
  (pxs_one (pxs_ret (px_frz (pxf_newV (i := 0) (alli_one I_Tasks) (hr.mono (c := false) (by decide)) (calla1 (px_v (i := 1) rfl)) (takes_of rfl rfl rfl rfl) rfl)))))
abbrev st__law_is_longer : Stmt := topS 51
theorem sc__law_is_longer : FnScope ["sections", "section", "one"] ["sections", "section"] (defScope st__law_is_longer) := ⟨rfl, rfl, rfl, by decide +kernel, rfl, by decide +kernel, by decide +kernel⟩
def m__law_is_longer : Fn := fnB 3 0 2
  (sRet (eOp dNe (eFrz (cLc (iSeq (eV 0)) (tName 2) (bAnd (bOf (eOp dEq (eOp dIx (eV 2) (eC (.int 2))) (eOp dIx (eV 1) (eC (.int 2))))) (bOf (eOp dGe (eOp dSub (eOp dIx (eV 2) (eC (.int 1))) (eOp dIx (eV 2) (eC (.int 0)))) (eOp dSub (eOp dIx (eV 1) (eC (.int 1))) (eOp dIx (eV 1) (eC (.int 0))))))) (eC (.int 1)) [2])) (eLst aNil)))
theorem ok__law_is_longer {fa : Addr} {fd : FuncData} (F : Fun K "_law_is_longer" "_law_is_longer" st__law_is_longer fa fd) (B : Bts mg) :
    FnG P w K mg base false 1 fa [] (fun vs _ => spF ⟨K, mg⟩ 0 2 m__law_is_longer vs) :=
  fnx F sc__law_is_longer (fun _ _ _ _ _ _ us hl => match us, hl with | [_, _], _ => rfl) fun cdv A outer s H E hr ps G0 H0 pr =>
  (pxs_one (pxs_ret (px_cmp (ox_ne hr.units) (px_frz (pxf_lc (own := [("one", 2)]) (ts := [2]) rfl sc__law_is_longer.nd (pxi_seq (px_v (i := 0) rfl)) (blkOk_by (own := [("one", 2)]) (N := ["sections", "section", "one"]) (sc := defScope st__law_is_longer) (by decide +kernel)) (by decide) (fun _ _ _ _ _ pr => (pxg_name (i := 2) sc__law_is_longer.nd rfl (by first | exact Or.inl rfl | exact Or.inr rfl))) (fun _ _ _ _ _ pr => (pxt_one (Dx.PW.pxb (pxw_and (pxb_cmp (ox_eq hr.units) (px_ix (px_v (i := 2) rfl) px_int (hu1 hr)) (px_ix (px_v (i := 1) rfl) px_int (hu1 hr)) (nomark _)) (pxw_one (pxb_cmp ox_ge (px_op ox_sub (px_ix (px_v (i := 2) rfl) px_int (hu1 hr)) (px_ix (px_v (i := 2) rfl) px_int (hu1 hr))) (px_op ox_sub (px_ix (px_v (i := 1) rfl) px_int (hu1 hr)) (px_ix (px_v (i := 1) rfl) px_int (hu1 hr))) (nomark _)) (.inl rfl)))))) (fun _ _ _ _ _ pr => px_int))) (px_lst pxa_nil) (nomark _))))
abbrev st__law_is_harder : Stmt := topS 52
theorem sc__law_is_harder : FnScope ["some", "other", "names_here", "spots", "spot", "line", "here", "section"] ["some", "other"] (defScope st__law_is_harder) := ⟨rfl, rfl, rfl, by decide +kernel, rfl, by decide +kernel, by decide +kernel⟩
def m__law_is_harder : Fn := fnB 8 0 2
  (sSeq (sAsg (eFrz (cLc (iSeq (eV 0)) (tName 5) bYes (eOp dIx (eV 5) (eC (.int 0))) [5])) (tName 2))
  (sSeq (sDatLc 3 (cLc (iSeq (eV 1)) (tName 5) (bOf (eOp (dIn false) (eOp dIx (eV 5) (eC (.int 0))) (eV 2))) (eIdx (eV 2) (aCons (eOp dIx (eV 5) (eC (.int 0))) aNil)) [5]))
  (sSeq (sIf (bOr (bOf (eOp dLt (eBi fLen (aCons (eV 3) aNil)) (eBi fLen (aCons (eV 1) aNil)))) (bOf (eOp dNe (eV 3) (eFrz (cBi lSortedX (aCons (eV 3) aNil)))))) (sRet (eC (.bl false))) sNil)
  (sSeq (sFor (iZip2 (aCons (eV 3) (aCons (eV 1) aNil))) (tTup 2 (tCons (tName 4) (tCons (tName 5) tNil))) (sSeq (sAsg (eOp dIx (eV 0) (eV 4)) (tName 6))
  (sSeq (sIf (bOr (bOf (eOp dLt (eOp dIx (eV 6) (eC (.int 1))) (eOp dIx (eV 5) (eC (.int 1))))) (bOr (bOf (eOp dGt (eOp dIx (eV 6) (eC (.int 2))) (eOp dIx (eV 5) (eC (.int 2))))) (bOr (bOf (eOp dGt (eOp dIx (eV 6) (eC (.int 3))) (eOp dIx (eV 5) (eC (.int 3))))) (bOf (eOp dLt (eOp dIx (eV 6) (eC (.int 4))) (eOp dIx (eV 5) (eC (.int 4)))))))) (sRet (eC (.bl false))) sNil)
  (sIf (bOf (eOp dNe (eFrz (cLc (iSeq (eOp dIx (eV 5) (eC (.int 5)))) (tName 7) (bNot (bOf (eCall m__law_is_longer (aCons (eOp dIx (eV 6) (eC (.int 5))) (aCons (eV 7) aNil))))) (eC (.int 1)) [7])) (eLst aNil))) (sRet (eC (.bl false))) sNil))))
  (sRet (eC (.bl true)))))))
theorem ok__law_is_harder {fa : Addr} {fd : FuncData} (F : Fun K "_law_is_harder" "_law_is_harder" st__law_is_harder fa fd) (B : Bts mg) (c__law_is_longer : CalX P w K mg base "_law_is_longer" false 1 0 ["sections", "section"] m__law_is_longer) :
    FnG P w K mg base false 2 fa [] (fun vs _ => spF ⟨K, mg⟩ 0 2 m__law_is_harder vs) :=
  fnx F sc__law_is_harder (fun _ _ _ _ _ _ us hl => match us, hl with | [_, _], _ => rfl) fun cdv A outer s H E hr ps G0 H0 pr =>
  (pxs_cons (pxs_set (i := 2) sc__law_is_harder.nd rfl (by first | exact Or.inl rfl | exact Or.inr rfl) (px_frz (pxf_lc (own := [("line", 5)]) (ts := [5]) rfl sc__law_is_harder.nd (pxi_seq (px_v (i := 0) rfl)) (blkOk_by (own := [("line", 5)]) (N := ["some", "other", "names_here", "spots", "spot", "line", "here", "section"]) (sc := defScope st__law_is_harder) (by decide +kernel)) (by decide) (fun _ _ _ _ _ pr => (pxg_name (i := 5) sc__law_is_harder.nd rfl (by first | exact Or.inl rfl | exact Or.inr rfl))) (fun _ _ _ _ _ pr => pxt_nil) (fun _ _ _ _ _ pr => (px_ix (px_v (i := 5) rfl) px_int (hu1 hr))))))
  (pxs_cons (pxs_datLc (i := 3) (own := [("line", 5)]) (ts := [5]) rfl sc__law_is_harder.nd rfl rfl (sw_true rfl rfl rfl (by decide +kernel)) (pxi_seq (px_v (i := 1) rfl)) (blkOk_by (own := [("line", 5)]) (N := ["some", "other", "names_here", "spots", "spot", "line", "here", "section"]) (sc := defScope st__law_is_harder) (by decide +kernel)) (by decide) (fun _ _ _ _ _ pr => (pxg_name (i := 5) sc__law_is_harder.nd rfl (by first | exact Or.inl rfl | exact Or.inr rfl))) (fun _ _ _ _ _ pr => (pxt_one (pxb_cmp (ox_in (hu65 hr)) (px_ix (px_v (i := 5) rfl) px_int (hu1 hr)) (px_v (i := 2) rfl) (by rfl)))) (fun _ _ _ _ _ pr => (px_idx (px_v (i := 2) rfl) (px_ix (px_v (i := 5) rfl) px_int (hu1 hr)))))
  (pxs_cons (pxs_if (Dx.PW.pxb (pxw_or (pxb_cmp ox_lt (px_bi cx_len (pxa_cons (px_v (i := 3) rfl) pxa_nil) B.len) (px_bi cx_len (pxa_cons (px_v (i := 1) rfl) pxa_nil) B.len) (nomark _)) (pxw_one (pxb_cmp (ox_ne hr.units) (px_v (i := 3) rfl) (px_frz (pxf_bi (cf_sortedX rfl) (pxa_cons (px_v (i := 3) rfl) pxa_nil) B.sorted)) (nomark _)) (.inr rfl)))) (pxs_one (pxs_ret px_bl)) pxs_nil)
  (pxs_cons (pxs_for (ts := [4, 5]) (passes_of rfl) rfl (pxi_zip2 (pxa_cons (px_v (i := 3) rfl) (pxa_cons (px_v (i := 1) rfl) pxa_nil)) B.zip) (pxg_tup rfl (pxg_cons (pxg_name (i := 4) sc__law_is_harder.nd rfl (by first | exact Or.inl rfl | exact Or.inr rfl)) (pxg_cons (pxg_name (i := 5) sc__law_is_harder.nd rfl (by first | exact Or.inl rfl | exact Or.inr rfl)) pxg_nil))) (pxs_cons (pxs_set (i := 6) sc__law_is_harder.nd rfl (by first | exact Or.inl rfl | exact Or.inr rfl) (px_ix (px_v (i := 0) rfl) (px_v (i := 4) rfl) (hu1 hr)))
  (pxs_cons (pxs_if (Dx.PW.pxb (pxw_or (pxb_cmp ox_lt (px_ix (px_v (i := 6) rfl) px_int (hu1 hr)) (px_ix (px_v (i := 5) rfl) px_int (hu1 hr)) (nomark _)) (pxw_or (pxb_cmp ox_gt (px_ix (px_v (i := 6) rfl) px_int (hu1 hr)) (px_ix (px_v (i := 5) rfl) px_int (hu1 hr)) (nomark _)) (pxw_or (pxb_cmp ox_gt (px_ix (px_v (i := 6) rfl) px_int (hu1 hr)) (px_ix (px_v (i := 5) rfl) px_int (hu1 hr)) (nomark _)) (pxw_one (pxb_cmp ox_lt (px_ix (px_v (i := 6) rfl) px_int (hu1 hr)) (px_ix (px_v (i := 5) rfl) px_int (hu1 hr)) (nomark _)) (.inr rfl)))))) (pxs_one (pxs_ret px_bl)) pxs_nil)
  (pxs_one (pxs_if (pxb_cmp (ox_ne hr.units) (px_frz (pxf_lc (own := [("section", 7)]) (ts := [7]) rfl sc__law_is_harder.nd (pxi_seq (px_ix (px_v (i := 5) rfl) px_int (hu1 hr))) (blkOk_by (own := [("section", 7)]) (N := ["some", "other", "names_here", "spots", "spot", "line", "here", "section"]) (sc := defScope st__law_is_harder) (by decide +kernel)) (by decide) (fun _ _ _ _ _ pr => (pxg_name (i := 7) sc__law_is_harder.nd rfl (by first | exact Or.inl rfl | exact Or.inr rfl))) (fun _ _ _ _ _ pr => (pxt_one (pxb_not (pxb_val (px_call c__law_is_longer (hr.mono (by decide)) (pxa_cons (px_ix (px_v (i := 6) rfl) px_int (hu1 hr)) (pxa_cons (px_v (i := 7) rfl) pxa_nil)) takes0))))) (fun _ _ _ _ _ pr => px_int))) (px_lst pxa_nil) (nomark _)) (pxs_one (pxs_ret px_bl)) pxs_nil)))))
  (pxs_one (pxs_ret px_bl))))))
abbrev st__law_draw : Stmt := topS 43
theorem sc__law_draw : FnScope ["stream", "high", "one", "two", "found"] ["stream", "high"] (defScope st__law_draw) := ⟨rfl, rfl, rfl, by decide +kernel, rfl, by decide +kernel, by decide +kernel⟩
def m__law_draw : Fn := fnB 5 1 2
  (sSeq (sIf (bOf (eOp dGt (eIxO 0 (eC (.int 0))) (eC (.int 0)))) (sSeq (sAsg (eOp dMod (eBi fInt (aCons (eIxO 0 (eC (.int 0))) aNil)) (eV 1)) (tName 4))
  (sSeq (sPut 0 (eC (.int 0)) (eOp dDiv (eIxO 0 (eC (.int 0))) (eV 1)))
  (sRet (eV 4)))) sNil)
  (sSeq (sPut 0 (eC (.int 2)) (eOp dAdd (eIxO 0 (eC (.int 2))) (eC (.int 1))))
  (sSeq (sAsg (eOp dMod (eBi fInt (aCons (eOp dAdd (eIxO 0 (eC (.int 1))) (eOp dMul (eC (.int 1000249)) (eIxO 0 (eC (.int 2))))) aNil)) (eC (.int 2305843009213693951))) (tName 2))
  (sSeq (sAsg (eOp dAdd (eOp dMul (eOp dMod (eBi fInt (aCons (eOp dMul (eV 2) (eV 2)) aNil)) (eC (.int 2305843009213693921))) (eV 2)) (eOp dMul (eC (.int 6871)) (eIxO 0 (eC (.int 2))))) (tName 3))
  (sSeq (sAsg (eOp dMod (eBi fInt (aCons (eV 3) aNil)) (eC (.int 2305843009213693907))) (tName 3))
  (sRet (eOp dMod (eBi fInt (aCons (eOp dDiv (eV 3) (eC (.int 8192))) aNil)) (eV 1))))))))
theorem ok__law_draw {fa : Addr} {fd : FuncData} (F : Fun K "_law_draw" "_law_draw" st__law_draw fa fd) (B : Bts mg) :
    FnG P w K mg base false 1 fa [] (fun vs _ => spF ⟨K, mg⟩ 1 2 m__law_draw vs) :=
  fnx F sc__law_draw (fun _ _ _ _ _ _ us hl => match us, hl with | [_, _], _ => rfl) fun cdv A outer s H E hr ps G0 H0 pr =>
  (pxs_cons (pxs_if (pxb_cmp ox_gt (px_ixO (i := 0) rfl px_int (hu1 hr)) px_int (nomark _)) (pxs_cons (pxs_set (i := 4) sc__law_draw.nd rfl (by first | exact Or.inl rfl | exact Or.inr rfl) (px_op ox_mod (px_bt cx_int (pxa_cons (px_ixO (i := 0) rfl px_int (hu1 hr)) pxa_nil) B.int) (px_v (i := 1) rfl)))
  (pxs_cons (pxs_put (i := 0) rfl px_int (px_op ox_div (px_ixO (i := 0) rfl px_int (hu1 hr)) (px_v (i := 1) rfl)))
  (pxs_one (pxs_ret (px_v (i := 4) rfl))))) pxs_nil)
  (pxs_cons (pxs_put (i := 0) rfl px_int (px_op ox_add (px_ixO (i := 0) rfl px_int (hu1 hr)) px_int))
  (pxs_cons (pxs_set (i := 2) sc__law_draw.nd rfl (by first | exact Or.inl rfl | exact Or.inr rfl) (px_op ox_mod (px_bt cx_int (pxa_cons (px_op ox_add (px_ixO (i := 0) rfl px_int (hu1 hr)) (px_op ox_mul px_int (px_ixO (i := 0) rfl px_int (hu1 hr)))) pxa_nil) B.int) px_int))
  (pxs_cons (pxs_set (i := 3) sc__law_draw.nd rfl (by first | exact Or.inl rfl | exact Or.inr rfl) (px_op ox_add (px_op ox_mul (px_op ox_mod (px_bt cx_int (pxa_cons (px_op ox_mul (px_v (i := 2) rfl) (px_v (i := 2) rfl)) pxa_nil) B.int) px_int) (px_v (i := 2) rfl)) (px_op ox_mul px_int (px_ixO (i := 0) rfl px_int (hu1 hr)))))
  (pxs_cons (pxs_set (i := 3) sc__law_draw.nd rfl (by first | exact Or.inl rfl | exact Or.inr rfl) (px_op ox_mod (px_bt cx_int (pxa_cons (px_v (i := 3) rfl) pxa_nil) B.int) px_int))
  (pxs_one (pxs_ret (px_op ox_mod (px_bt cx_int (pxa_cons (px_op ox_div (px_v (i := 3) rfl) px_int) pxa_nil) B.int) (px_v (i := 1) rfl)))))))))
abbrev st__law_mixed : Stmt := topS 45
theorem sc__law_mixed : FnScope ["stream", "items", "left", "turn"] ["stream", "items"] (defScope st__law_mixed) := ⟨rfl, rfl, rfl, by decide +kernel, rfl, by decide +kernel, by decide +kernel⟩
def m__law_mixed : Fn := fnB 4 1 2
  (sSeq (sOwn 2 (cBi lList (aCons (eV 1) aNil)))
  (sRet (eFrz (cLc (iRange1 (aCons (eBi fLen (aCons (eV 1) aNil)) aNil)) (tName 3) bYes (ePop 2 (eCallB m__law_draw 0 (aCons (eLenO 2) aNil))) [3]))))
theorem ok__law_mixed {fa : Addr} {fd : FuncData} (F : Fun K "_law_mixed" "_law_mixed" st__law_mixed fa fd) (B : Bts mg) (c__law_draw : CalX P w K mg base "_law_draw" false 1 1 ["stream", "high"] m__law_draw) :
    FnG P w K mg base false 2 fa [] (fun vs _ => spF ⟨K, mg⟩ 1 2 m__law_mixed vs) :=
  fnx F sc__law_mixed (fun _ _ _ _ _ _ us hl => match us, hl with | [_, _], _ => rfl) fun cdv A outer s H E hr ps G0 H0 pr =>
  (pxs_cons (pxs_own (i := 2) sc__law_mixed.nd rfl (by first | exact Or.inl rfl | exact Or.inr rfl) (pxf_bt cf_list (pxa_cons (px_v (i := 1) rfl) pxa_nil) B.list))
  (pxs_one (pxs_ret (px_frz (pxf_lc (own := [("turn", 3)]) (ts := [3]) rfl sc__law_mixed.nd (pxi_range1 (pxa_cons (px_bi cx_len (pxa_cons (px_v (i := 1) rfl) pxa_nil) B.len) pxa_nil) B.range) (blkOk_by (own := [("turn", 3)]) (N := ["stream", "items", "left", "turn"]) (sc := defScope st__law_mixed) (by decide +kernel)) (by decide) (fun _ _ _ _ _ pr => (pxg_name (i := 3) sc__law_mixed.nd rfl (by first | exact Or.inl rfl | exact Or.inr rfl))) (fun _ _ _ _ _ pr => pxt_nil) (fun _ _ _ _ _ pr => (px_pop (i := 2) rfl (px_callB (i := 0) c__law_draw (hr.mono (by decide)) rfl (pxa_cons (px_lenO (i := 2) rfl B.len) pxa_nil) takes0))))))))
abbrev st__law_names : Stmt := topS 46
theorem sc__law_names : FnScope ["stream", "much", "some"] ["stream", "much"] (defScope st__law_names) := ⟨rfl, rfl, rfl, by decide +kernel, rfl, by decide +kernel, by decide +kernel⟩
def m__law_names : Fn := fnB 3 1 2
  (sSeq (sAsg (eLst (aCons (eC (.str "a")) (aCons (eC (.str "aa")) (aCons (eC (.str "b")) (aCons (eC (.str "ba")) (aCons (eC (.str "car")) (aCons (eC (.str "d")) (aCons (eC (.str "gap")) (aCons (eC (.str "k")) (aCons (eC (.str "late")) (aCons (eC (.str "map")) (aCons (eC (.str "none")) (aCons (eC (.str "row")) (aCons (eC (.str "task")) (aCons (eC (.str "x")) (aCons (eC (.str "y")) aNil)))))))))))))))) (tName 2))
  (sRet (eSl (eCallB m__law_mixed 0 (aCons (eOp dAdd (eV 2) (eLst (aCons (eC (.str "zzzzzzzz")) aNil))) aNil)) oNo (oSo (eV 1)))))
theorem ok__law_names {fa : Addr} {fd : FuncData} (F : Fun K "_law_names" "_law_names" st__law_names fa fd) (B : Bts mg) (c__law_mixed : CalX P w K mg base "_law_mixed" false 2 1 ["stream", "items"] m__law_mixed) :
    FnG P w K mg base false 3 fa [] (fun vs _ => spF ⟨K, mg⟩ 1 2 m__law_names vs) :=
  fnx F sc__law_names (fun _ _ _ _ _ _ us hl => match us, hl with | [_, _], _ => rfl) fun cdv A outer s H E hr ps G0 H0 pr =>
  (pxs_cons (pxs_set (i := 2) sc__law_names.nd rfl (by first | exact Or.inl rfl | exact Or.inr rfl) (px_lst (pxa_cons px_str (pxa_cons px_str (pxa_cons px_str (pxa_cons px_str (pxa_cons px_str (pxa_cons px_str (pxa_cons px_str (pxa_cons px_str (pxa_cons px_str (pxa_cons px_str (pxa_cons px_str (pxa_cons px_str (pxa_cons px_str (pxa_cons px_str (pxa_cons px_str pxa_nil)))))))))))))))))
  (pxs_one (pxs_ret (px_sl (px_callB (i := 0) c__law_mixed (hr.mono (by decide)) rfl (pxa_cons (px_op ox_add (px_v (i := 2) rfl) (px_lst (pxa_cons px_str pxa_nil))) pxa_nil) (takes_of rfl rfl rfl rfl)) pxo_no (pxo_so (px_v (i := 1) rfl))))))
abbrev st__law_pick : Stmt := topS 44
theorem sc__law_pick : FnScope ["stream", "items"] ["stream", "items"] (defScope st__law_pick) := ⟨rfl, rfl, rfl, by decide +kernel, rfl, by decide +kernel, by decide +kernel⟩
def m__law_pick : Fn := fnB 2 1 2
  (sRet (eOp dIx (eV 1) (eCallB m__law_draw 0 (aCons (eBi fLen (aCons (eV 1) aNil)) aNil))))
theorem ok__law_pick {fa : Addr} {fd : FuncData} (F : Fun K "_law_pick" "_law_pick" st__law_pick fa fd) (B : Bts mg) (c__law_draw : CalX P w K mg base "_law_draw" false 1 1 ["stream", "high"] m__law_draw) :
    FnG P w K mg base false 2 fa [] (fun vs _ => spF ⟨K, mg⟩ 1 2 m__law_pick vs) :=
  fnx F sc__law_pick (fun _ _ _ _ _ _ us hl => match us, hl with | [_, _], _ => rfl) fun cdv A outer s H E hr ps G0 H0 pr =>
  (pxs_one (pxs_ret (px_ix (px_v (i := 1) rfl) (px_callB (i := 0) c__law_draw (hr.mono (by decide)) rfl (pxa_cons (px_bi cx_len (pxa_cons (px_v (i := 1) rfl) pxa_nil) B.len) pxa_nil) (takes_of rfl rfl rfl rfl)) (hu1 hr))))
abbrev st__law_sections : Stmt := topS 47
theorem sc__law_sections : FnScope ["stream", "high", "locks", "turn", "found", "begin", "end"] ["stream", "high", "locks"] (defScope st__law_sections) := ⟨rfl, rfl, rfl, by decide +kernel, rfl, by decide +kernel, by decide +kernel⟩
def m__law_sections : Fn := fnB 7 1 3
  (sSeq (sParM 4 5 (.inr (cLst aNil)) (.inl (eC (.int 0))))
  (sSeq (sFor (iRange1 (aCons (eCallB m__law_pick 0 (aCons (eLst (aCons (eC (.int 0)) (aCons (eC (.int 0)) (aCons (eC (.int 1)) (aCons (eC (.int 1)) (aCons (eC (.int 2)) (aCons (eC (.int 3)) aNil))))))) aNil)) aNil)) (tName 3) (sSeq (sAsg (eOp dAdd (eV 5) (eCallB m__law_draw 0 (aCons (eC (.int 3)) aNil))) (tName 5))
  (sSeq (sAsg (eOp dAdd (eOp dAdd (eV 5) (eC (.int 1))) (eCallB m__law_draw 0 (aCons (eC (.int 4)) aNil))) (tName 6))
  (sIf (bOf (eOp dLt (eV 6) (eV 1))) (sSeq (sApp 4 (eTup (aCons (eV 5) (aCons (eV 6) (aCons (eCallB m__law_pick 0 (aCons (eV 2) aNil)) aNil)))))
  (sAsg (eV 6) (tName 5))) sNil))))
  (sRet (eBi fTuple (aCons (eV 4) aNil)))))
theorem ok__law_sections {fa : Addr} {fd : FuncData} (F : Fun K "_law_sections" "_law_sections" st__law_sections fa fd) (B : Bts mg) (c__law_pick : CalX P w K mg base "_law_pick" false 2 1 ["stream", "items"] m__law_pick) (c__law_draw : CalX P w K mg base "_law_draw" false 1 1 ["stream", "high"] m__law_draw) :
    FnG P w K mg base false 3 fa [] (fun vs _ => spF ⟨K, mg⟩ 1 3 m__law_sections vs) :=
  fnx F sc__law_sections (fun _ _ _ _ _ _ us hl => match us, hl with | [_, _, _], _ => rfl) fun cdv A outer s H E hr ps G0 H0 pr =>
  (pxs_cons (pxs_parM (i := 4) (j := 5) (by rfl) sc__law_sections.nd rfl rfl (by decide) rfl rfl (pxm_c (fun pr => (pxf_lst pxa_nil))) (pxm_e (fun pr => px_int)) (by rfl))
  (pxs_cons (pxs_for (ts := [3]) (passes_of rfl) rfl (pxi_range1 (pxa_cons (px_callB (i := 0) c__law_pick (hr.mono (by decide)) rfl (pxa_cons (px_lst (pxa_cons px_int (pxa_cons px_int (pxa_cons px_int (pxa_cons px_int (pxa_cons px_int (pxa_cons px_int pxa_nil))))))) pxa_nil) (takes_of rfl rfl rfl rfl)) pxa_nil) B.range) (pxg_name (i := 3) sc__law_sections.nd rfl (by first | exact Or.inl rfl | exact Or.inr rfl)) (pxs_cons (pxs_set (i := 5) sc__law_sections.nd rfl (by first | exact Or.inl rfl | exact Or.inr rfl) (px_op ox_add (px_v (i := 5) rfl) (px_callB (i := 0) c__law_draw (hr.mono (by decide)) rfl (pxa_cons px_int pxa_nil) (takes_of rfl rfl rfl rfl))))
  (pxs_cons (pxs_set (i := 6) sc__law_sections.nd rfl (by first | exact Or.inl rfl | exact Or.inr rfl) (px_op ox_add (px_op ox_add (px_v (i := 5) rfl) px_int) (px_callB (i := 0) c__law_draw (hr.mono (by decide)) rfl (pxa_cons px_int pxa_nil) (takes_of rfl rfl rfl rfl))))
  (pxs_one (pxs_if (pxb_cmp ox_lt (px_v (i := 6) rfl) (px_v (i := 1) rfl) (nomark _)) (pxs_cons (pxs_app (i := 4) rfl (px_tup (pxa_cons (px_v (i := 5) rfl) (pxa_cons (px_v (i := 6) rfl) (pxa_cons (px_callB (i := 0) c__law_pick (hr.mono (by decide)) rfl (pxa_cons (px_v (i := 2) rfl) pxa_nil) (takes_of rfl rfl rfl rfl)) pxa_nil)))))
  (pxs_one (pxs_set (i := 5) sc__law_sections.nd rfl (by first | exact Or.inl rfl | exact Or.inr rfl) (px_v (i := 6) rfl)))) pxs_nil)))))
  (pxs_one (pxs_ret (px_bt cx_tuple (pxa_cons (px_v (i := 4) rfl) pxa_nil) B.tuple)))))
abbrev st__law_some : Stmt := topS 48
theorem sc__law_some : FnScope ["stream", "most", "much", "turn", "locks", "parts", "found", "at", "name_here", "high", "wide", "due"] ["stream", "most"] (defScope st__law_some) := ⟨rfl, rfl, rfl, by decide +kernel, rfl, by decide +kernel, by decide +kernel⟩
def m__law_some : Fn := fnB 12 1 2
  (sSeq (sAsg (eCallB m__law_draw 0 (aCons (eOp dAdd (eV 1) (eC (.int 1))) aNil)) (tName 2))
  (sSeq (sParM 5 6 (.inr (cRep (eLst (aCons (eC (.int 1)) aNil)) (eV 2))) (.inr (cLst aNil)))
  (sSeq (sFor (iRange1 (aCons (eIf (bOf (eOp dGt (eV 2) (eC (.int 0)))) (eCallB m__law_draw 0 (aCons (eOp dSub (eC (.int 10)) (eV 2)) aNil)) (eC (.int 0))) aNil)) (tName 3) (sSeq (sAsg (eCallB m__law_draw 0 (aCons (eV 2) aNil)) (tName 7))
  (sPut 5 (eV 7) (eOp dAdd (eIxO 5 (eV 7)) (eC (.int 1))))))
  (sSeq (sAsg (eCallB m__law_names 0 (aCons (eC (.int 2)) aNil)) (tName 4))
  (sSeq (sFor (iEnumT (aCons (eCallB m__law_names 0 (aCons (eV 2) aNil)) aNil)) (tTup 2 (tCons (tName 7) (tCons (tName 8) tNil))) (sSeq (sAsg (eOp dAdd (eC (.int 1)) (eCallB m__law_draw 0 (aCons (eCallB m__law_pick 0 (aCons (eLst (aCons (eC (.int 1)) (aCons (eC (.int 2)) (aCons (eC (.int 4)) (aCons (eC (.int 6)) (aCons (eC (.int 9)) aNil)))))) aNil)) aNil))) (tName 9))
  (sSeq (sAsg (eOp dDiv (eOp dSub (eOp dAdd (eOp dMul (eC (.int 10)) (eV 9)) (eIxO 5 (eV 7))) (eC (.int 1))) (eIxO 5 (eV 7))) (tName 10))
  (sSeq (sAsg (eOp dAdd (eV 10) (eCallB m__law_pick 0 (aCons (eLst (aCons (eC (.int 0)) (aCons (eC (.int 0)) (aCons (eC (.int 1)) (aCons (eC (.int 3)) (aCons (eC (.int 7)) aNil)))))) aNil))) (tName 10))
  (sSeq (sAsg (eOp dAdd (eV 9) (eCallB m__law_draw 0 (aCons (eCallB m__law_pick 0 (aCons (eLst (aCons (eC (.int 1)) (aCons (eOp dAdd (eV 9) (eC (.int 1))) (aCons (eC (.int 6)) (aCons (eC (.int 15)) (aCons (eOp dMul (eC (.int 2)) (eV 10)) (aCons (eC (.int 60)) aNil))))))) aNil)) aNil))) (tName 11))
  (sSeq (sAsg (eCallB m__law_pick 0 (aCons (eLst (aCons (eV 11) (aCons (eV 11) (aCons (eV 10) aNil)))) aNil)) (tName 11))
  (sApp 6 (eTup (aCons (eV 8) (aCons (eV 9) (aCons (eV 10) (aCons (eV 11) (aCons (eCallB m__law_draw 0 (aCons (eC (.int 7)) aNil)) (aCons (eCallB m__law_sections 0 (aCons (eV 9) (aCons (eV 4) aNil))) aNil))))))))))))))
  (sRet (eBi fTuple (aCons (eV 6) aNil))))))))
theorem ok__law_some {fa : Addr} {fd : FuncData} (F : Fun K "_law_some" "_law_some" st__law_some fa fd) (B : Bts mg) (c__law_names : CalX P w K mg base "_law_names" false 3 1 ["stream", "much"] m__law_names) (c__law_sections : CalX P w K mg base "_law_sections" false 3 1 ["stream", "high", "locks"] m__law_sections) (c__law_draw : CalX P w K mg base "_law_draw" false 1 1 ["stream", "high"] m__law_draw) (c__law_pick : CalX P w K mg base "_law_pick" false 2 1 ["stream", "items"] m__law_pick) :
    FnG P w K mg base false 4 fa [] (fun vs _ => spF ⟨K, mg⟩ 1 2 m__law_some vs) :=
  fnx F sc__law_some (fun _ _ _ _ _ _ us hl => match us, hl with | [_, _], _ => rfl) fun cdv A outer s H E hr ps G0 H0 pr =>
  (pxs_cons (pxs_set (i := 2) sc__law_some.nd rfl (by first | exact Or.inl rfl | exact Or.inr rfl) (px_callB (i := 0) c__law_draw (hr.mono (by decide)) rfl (pxa_cons (px_op ox_add (px_v (i := 1) rfl) px_int) pxa_nil) (takes_of rfl rfl rfl rfl)))
  (pxs_cons (pxs_parM (i := 5) (j := 6) (by rfl) sc__law_some.nd rfl rfl (by decide) rfl rfl (pxm_c (fun pr => (pxf_rep (px_lst (pxa_cons px_int pxa_nil)) (px_v (i := 2) rfl)))) (pxm_c (fun pr => (pxf_lst pxa_nil))) (by rfl))
  (pxs_cons (pxs_for (ts := [3]) (passes_of rfl) rfl (pxi_range1 (pxa_cons (px_if (pxb_cmp ox_gt (px_v (i := 2) rfl) px_int (nomark _)) (px_callB (i := 0) c__law_draw (hr.mono (by decide)) rfl (pxa_cons (px_op ox_sub px_int (px_v (i := 2) rfl)) pxa_nil) (takes_of rfl rfl rfl rfl)) px_int) pxa_nil) B.range) (pxg_name (i := 3) sc__law_some.nd rfl (by first | exact Or.inl rfl | exact Or.inr rfl)) (pxs_cons (pxs_set (i := 7) sc__law_some.nd rfl (by first | exact Or.inl rfl | exact Or.inr rfl) (px_callB (i := 0) c__law_draw (hr.mono (by decide)) rfl (pxa_cons (px_v (i := 2) rfl) pxa_nil) (takes_of rfl rfl rfl rfl)))
  (pxs_one (pxs_put (i := 5) rfl (px_v (i := 7) rfl) (px_op ox_add (px_ixO (i := 5) rfl (px_v (i := 7) rfl) (hu1 hr)) px_int)))))
  (pxs_cons (pxs_set (i := 4) sc__law_some.nd rfl (by first | exact Or.inl rfl | exact Or.inr rfl) (px_callB (i := 0) c__law_names (hr.mono (by decide)) rfl (pxa_cons px_int pxa_nil) (takes_of rfl rfl rfl rfl)))
  (pxs_cons (pxs_for (ts := [7, 8]) (passes_of rfl) rfl (pxi_enumT (pxa_cons (px_callB (i := 0) c__law_names (hr.mono (by decide)) rfl (pxa_cons (px_v (i := 2) rfl) pxa_nil) (takes_of rfl rfl rfl rfl)) pxa_nil) B.enumerate) (pxg_tup rfl (pxg_cons (pxg_name (i := 7) sc__law_some.nd rfl (by first | exact Or.inl rfl | exact Or.inr rfl)) (pxg_cons (pxg_name (i := 8) sc__law_some.nd rfl (by first | exact Or.inl rfl | exact Or.inr rfl)) pxg_nil))) (pxs_cons (pxs_set (i := 9) sc__law_some.nd rfl (by first | exact Or.inl rfl | exact Or.inr rfl) (px_op ox_add px_int (px_callB (i := 0) c__law_draw (hr.mono (by decide)) rfl (pxa_cons (px_callB (i := 0) c__law_pick (hr.mono (by decide)) rfl (pxa_cons (px_lst (pxa_cons px_int (pxa_cons px_int (pxa_cons px_int (pxa_cons px_int (pxa_cons px_int pxa_nil)))))) pxa_nil) (takes_of rfl rfl rfl rfl)) pxa_nil) (takes_of rfl rfl rfl rfl))))
  (pxs_cons (pxs_set (i := 10) sc__law_some.nd rfl (by first | exact Or.inl rfl | exact Or.inr rfl) (px_op ox_div (px_op ox_sub (px_op ox_add (px_op ox_mul px_int (px_v (i := 9) rfl)) (px_ixO (i := 5) rfl (px_v (i := 7) rfl) (hu1 hr))) px_int) (px_ixO (i := 5) rfl (px_v (i := 7) rfl) (hu1 hr))))
  (pxs_cons (pxs_set (i := 10) sc__law_some.nd rfl (by first | exact Or.inl rfl | exact Or.inr rfl) (px_op ox_add (px_v (i := 10) rfl) (px_callB (i := 0) c__law_pick (hr.mono (by decide)) rfl (pxa_cons (px_lst (pxa_cons px_int (pxa_cons px_int (pxa_cons px_int (pxa_cons px_int (pxa_cons px_int pxa_nil)))))) pxa_nil) (takes_of rfl rfl rfl rfl))))
  (pxs_cons (pxs_set (i := 11) sc__law_some.nd rfl (by first | exact Or.inl rfl | exact Or.inr rfl) (px_op ox_add (px_v (i := 9) rfl) (px_callB (i := 0) c__law_draw (hr.mono (by decide)) rfl (pxa_cons (px_callB (i := 0) c__law_pick (hr.mono (by decide)) rfl (pxa_cons (px_lst (pxa_cons px_int (pxa_cons (px_op ox_add (px_v (i := 9) rfl) px_int) (pxa_cons px_int (pxa_cons px_int (pxa_cons (px_op ox_mul px_int (px_v (i := 10) rfl)) (pxa_cons px_int pxa_nil))))))) pxa_nil) (takes_of rfl rfl rfl rfl)) pxa_nil) (takes_of rfl rfl rfl rfl))))
  (pxs_cons (pxs_set (i := 11) sc__law_some.nd rfl (by first | exact Or.inl rfl | exact Or.inr rfl) (px_callB (i := 0) c__law_pick (hr.mono (by decide)) rfl (pxa_cons (px_lst (pxa_cons (px_v (i := 11) rfl) (pxa_cons (px_v (i := 11) rfl) (pxa_cons (px_v (i := 10) rfl) pxa_nil)))) pxa_nil) (takes_of rfl rfl rfl rfl)))
  (pxs_one (pxs_app (i := 6) rfl (px_tup (pxa_cons (px_v (i := 8) rfl) (pxa_cons (px_v (i := 9) rfl) (pxa_cons (px_v (i := 10) rfl) (pxa_cons (px_v (i := 11) rfl) (pxa_cons (px_callB (i := 0) c__law_draw (hr.mono (by decide)) rfl (pxa_cons px_int pxa_nil) (takes_of rfl rfl rfl rfl)) (pxa_cons (px_callB (i := 0) c__law_sections (hr.mono (by decide)) rfl (pxa_cons (px_v (i := 9) rfl) (pxa_cons (px_v (i := 4) rfl) pxa_nil)) (takes_of rfl rfl rfl rfl)) pxa_nil)))))))))))))))
  (pxs_one (pxs_ret (px_bt cx_tuple (pxa_cons (px_v (i := 6) rfl) pxa_nil) B.tuple))))))))
abbrev st__law_short : Stmt := topS 49
theorem sc__law_short : FnScope ["stream", "line", "found", "before", "begin", "end", "lock", "first", "last"] ["stream", "line"] (defScope st__law_short) := ⟨rfl, rfl, rfl, by decide +kernel, rfl, by decide +kernel, by decide +kernel⟩
def m__law_short : Fn := fnB 9 1 2
  (sSeq (sParM 2 3 (.inr (cLst aNil)) (.inl (eC (.int 0))))
  (sSeq (sFor (iSeq (eOp dIx (eV 1) (eC (.int 5)))) (tTup 3 (tCons (tName 4) (tCons (tName 5) (tCons (tName 6) tNil)))) (sSeq (sAsg (eBi fMax (aCons (eV 3) (aCons (eOp dSub (eV 4) (eCallB m__law_draw 0 (aCons (eC (.int 2)) aNil))) aNil))) (tName 7))
  (sSeq (sAsg (eOp dAdd (eOp dAdd (eV 7) (eC (.int 1))) (eCallB m__law_draw 0 (aCons (eOp dSub (eV 5) (eV 4)) aNil))) (tName 8))
  (sIf (bAnd (bOf (eOp dGt (eCallB m__law_draw 0 (aCons (eC (.int 4)) aNil)) (eC (.int 0)))) (bOf (eOp dLt (eV 8) (eOp dIx (eV 1) (eC (.int 1)))))) (sSeq (sApp 2 (eTup (aCons (eV 7) (aCons (eV 8) (aCons (eV 6) aNil)))))
  (sAsg (eV 8) (tName 3))) sNil))))
  (sRet (eBi fTuple (aCons (eV 2) aNil)))))
theorem ok__law_short {fa : Addr} {fd : FuncData} (F : Fun K "_law_short" "_law_short" st__law_short fa fd) (B : Bts mg) (c__law_draw : CalX P w K mg base "_law_draw" false 1 1 ["stream", "high"] m__law_draw) :
    FnG P w K mg base false 2 fa [] (fun vs _ => spF ⟨K, mg⟩ 1 2 m__law_short vs) :=
  fnx F sc__law_short (fun _ _ _ _ _ _ us hl => match us, hl with | [_, _], _ => rfl) fun cdv A outer s H E hr ps G0 H0 pr =>
  (pxs_cons (pxs_parM (i := 2) (j := 3) (by rfl) sc__law_short.nd rfl rfl (by decide) rfl rfl (pxm_c (fun pr => (pxf_lst pxa_nil))) (pxm_e (fun pr => px_int)) (by rfl))
  (pxs_cons (pxs_for (ts := [4, 5, 6]) (passes_of rfl) rfl (pxi_seq (px_ix (px_v (i := 1) rfl) px_int (hu1 hr))) (pxg_tup rfl (pxg_cons (pxg_name (i := 4) sc__law_short.nd rfl (by first | exact Or.inl rfl | exact Or.inr rfl)) (pxg_cons (pxg_name (i := 5) sc__law_short.nd rfl (by first | exact Or.inl rfl | exact Or.inr rfl)) (pxg_cons (pxg_name (i := 6) sc__law_short.nd rfl (by first | exact Or.inl rfl | exact Or.inr rfl)) pxg_nil)))) (pxs_cons (pxs_set (i := 7) sc__law_short.nd rfl (by first | exact Or.inl rfl | exact Or.inr rfl) (px_bi (cx_max rfl) (pxa_cons (px_v (i := 3) rfl) (pxa_cons (px_op ox_sub (px_v (i := 4) rfl) (px_callB (i := 0) c__law_draw (hr.mono (by decide)) rfl (pxa_cons px_int pxa_nil) (takes_of rfl rfl rfl rfl))) pxa_nil)) B.max))
  (pxs_cons (pxs_set (i := 8) sc__law_short.nd rfl (by first | exact Or.inl rfl | exact Or.inr rfl) (px_op ox_add (px_op ox_add (px_v (i := 7) rfl) px_int) (px_callB (i := 0) c__law_draw (hr.mono (by decide)) rfl (pxa_cons (px_op ox_sub (px_v (i := 5) rfl) (px_v (i := 4) rfl)) pxa_nil) (takes_of rfl rfl rfl rfl))))
  (pxs_one (pxs_if (Dx.PW.pxb (pxw_and (pxb_cmp ox_gt (px_callB (i := 0) c__law_draw (hr.mono (by decide)) rfl (pxa_cons px_int pxa_nil) (takes_of rfl rfl rfl rfl)) px_int (nomark _)) (pxw_one (pxb_cmp ox_lt (px_v (i := 8) rfl) (px_ix (px_v (i := 1) rfl) px_int (hu1 hr)) (nomark _)) (.inl rfl)))) (pxs_cons (pxs_app (i := 2) rfl (px_tup (pxa_cons (px_v (i := 7) rfl) (pxa_cons (px_v (i := 8) rfl) (pxa_cons (px_v (i := 6) rfl) pxa_nil)))))
  (pxs_one (pxs_set (i := 3) sc__law_short.nd rfl (by first | exact Or.inl rfl | exact Or.inr rfl) (px_v (i := 8) rfl)))) pxs_nil)))))
  (pxs_one (pxs_ret (px_bt cx_tuple (pxa_cons (px_v (i := 2) rfl) pxa_nil) B.tuple)))))
abbrev st__law_easier : Stmt := topS 50
theorem sc__law_easier : FnScope ["stream", "some", "parting", "found", "line", "high", "weight", "eased", "wide", "due"] ["stream", "some", "parting"] (defScope st__law_easier) := ⟨rfl, rfl, rfl, by decide +kernel, rfl, by decide +kernel, by decide +kernel⟩
def m__law_easier : Fn := fnB 10 1 3
  (sSeq (sOwn 3 (cLst aNil))
  (sSeq (sFor (iSeq (eV 1)) (tName 4) (sSeq (sAsg (eCallB m__law_pick 0 (aCons (eLst (aCons (eOp dIx (eV 4) (eC (.int 1))) (aCons (eOp dIx (eV 4) (eC (.int 1))) (aCons (eOp dAdd (eC (.int 1)) (eCallB m__law_draw 0 (aCons (eOp dIx (eV 4) (eC (.int 1))) aNil))) aNil)))) aNil)) (tName 5))
  (sSeq (sPar 8 9 (aCons (eOp dAdd (eOp dIx (eV 4) (eC (.int 2))) (eCallB m__law_pick 0 (aCons (eLst (aCons (eC (.int 0)) (aCons (eC (.int 0)) (aCons (eC (.int 1)) (aCons (eC (.int 6)) aNil))))) aNil))) (aCons (eOp dAdd (eOp dIx (eV 4) (eC (.int 3))) (eCallB m__law_pick 0 (aCons (eLst (aCons (eC (.int 0)) (aCons (eC (.int 0)) (aCons (eC (.int 1)) (aCons (eC (.int 9)) aNil))))) aNil))) aNil)))
  (sSeq (sAsg (eCallB m__law_pick 0 (aCons (eLst (aCons (eOp dIx (eV 4) (eC (.int 4))) (aCons (eOp dIx (eV 4) (eC (.int 4))) (aCons (eCallB m__law_draw 0 (aCons (eOp dAdd (eOp dIx (eV 4) (eC (.int 4))) (eC (.int 1))) aNil)) aNil)))) aNil)) (tName 6))
  (sSeq (sAsg (eTup (aCons (eOp dIx (eV 4) (eC (.int 0))) (aCons (eV 5) (aCons (eV 8) (aCons (eV 9) (aCons (eV 6) (aCons (eOp dIx (eV 4) (eC (.int 5))) aNil))))))) (tName 7))
  (sSeq (sAsg (eOp dAdd (eSl (eV 7) oNo (oSo (eC (.int 5)))) (eTup (aCons (eCallB m__law_short 0 (aCons (eV 7) aNil)) aNil))) (tName 7))
  (sIf (bOr (bNot (bTru (eV 2))) (bOf (eOp dGt (eCallB m__law_draw 0 (aCons (eC (.int 4)) aNil)) (eC (.int 0))))) (sApp 3 (eV 7)) sNil)))))))
  (sRet (eBi fTuple (aCons (eV 3) aNil)))))
theorem ok__law_easier {fa : Addr} {fd : FuncData} (F : Fun K "_law_easier" "_law_easier" st__law_easier fa fd) (B : Bts mg) (c__law_draw : CalX P w K mg base "_law_draw" false 1 1 ["stream", "high"] m__law_draw) (c__law_short : CalX P w K mg base "_law_short" false 2 1 ["stream", "line"] m__law_short) (c__law_pick : CalX P w K mg base "_law_pick" false 2 1 ["stream", "items"] m__law_pick) :
    FnG P w K mg base false 3 fa [] (fun vs _ => spF ⟨K, mg⟩ 1 3 m__law_easier vs) :=
  fnx F sc__law_easier (fun _ _ _ _ _ _ us hl => match us, hl with | [_, _, _], _ => rfl) fun cdv A outer s H E hr ps G0 H0 pr =>
  (pxs_cons (pxs_own (i := 3) sc__law_easier.nd rfl (by first | exact Or.inl rfl | exact Or.inr rfl) (pxf_lst pxa_nil))
  (pxs_cons (pxs_for (ts := [4]) (passes_of rfl) rfl (pxi_seq (px_v (i := 1) rfl)) (pxg_name (i := 4) sc__law_easier.nd rfl (by first | exact Or.inl rfl | exact Or.inr rfl)) (pxs_cons (pxs_set (i := 5) sc__law_easier.nd rfl (by first | exact Or.inl rfl | exact Or.inr rfl) (px_callB (i := 0) c__law_pick (hr.mono (by decide)) rfl (pxa_cons (px_lst (pxa_cons (px_ix (px_v (i := 4) rfl) px_int (hu1 hr)) (pxa_cons (px_ix (px_v (i := 4) rfl) px_int (hu1 hr)) (pxa_cons (px_op ox_add px_int (px_callB (i := 0) c__law_draw (hr.mono (by decide)) rfl (pxa_cons (px_ix (px_v (i := 4) rfl) px_int (hu1 hr)) pxa_nil) (takes_of rfl rfl rfl rfl))) pxa_nil)))) pxa_nil) (takes_of rfl rfl rfl rfl)))
  (pxs_cons (pxs_par (i := 8) (j := 9) (by rfl) sc__law_easier.nd rfl rfl (by decide) rfl rfl (pxa_cons (px_op ox_add (px_ix (px_v (i := 4) rfl) px_int (hu1 hr)) (px_callB (i := 0) c__law_pick (hr.mono (by decide)) rfl (pxa_cons (px_lst (pxa_cons px_int (pxa_cons px_int (pxa_cons px_int (pxa_cons px_int pxa_nil))))) pxa_nil) (takes_of rfl rfl rfl rfl))) (pxa_cons (px_op ox_add (px_ix (px_v (i := 4) rfl) px_int (hu1 hr)) (px_callB (i := 0) c__law_pick (hr.mono (by decide)) rfl (pxa_cons (px_lst (pxa_cons px_int (pxa_cons px_int (pxa_cons px_int (pxa_cons px_int pxa_nil))))) pxa_nil) (takes_of rfl rfl rfl rfl))) pxa_nil)) (by rfl))
  (pxs_cons (pxs_set (i := 6) sc__law_easier.nd rfl (by first | exact Or.inl rfl | exact Or.inr rfl) (px_callB (i := 0) c__law_pick (hr.mono (by decide)) rfl (pxa_cons (px_lst (pxa_cons (px_ix (px_v (i := 4) rfl) px_int (hu1 hr)) (pxa_cons (px_ix (px_v (i := 4) rfl) px_int (hu1 hr)) (pxa_cons (px_callB (i := 0) c__law_draw (hr.mono (by decide)) rfl (pxa_cons (px_op ox_add (px_ix (px_v (i := 4) rfl) px_int (hu1 hr)) px_int) pxa_nil) (takes_of rfl rfl rfl rfl)) pxa_nil)))) pxa_nil) (takes_of rfl rfl rfl rfl)))
  (pxs_cons (pxs_set (i := 7) sc__law_easier.nd rfl (by first | exact Or.inl rfl | exact Or.inr rfl) (px_tup (pxa_cons (px_ix (px_v (i := 4) rfl) px_int (hu1 hr)) (pxa_cons (px_v (i := 5) rfl) (pxa_cons (px_v (i := 8) rfl) (pxa_cons (px_v (i := 9) rfl) (pxa_cons (px_v (i := 6) rfl) (pxa_cons (px_ix (px_v (i := 4) rfl) px_int (hu1 hr)) pxa_nil))))))))
  (pxs_cons (pxs_set (i := 7) sc__law_easier.nd rfl (by first | exact Or.inl rfl | exact Or.inr rfl) (px_op ox_add (px_sl (px_v (i := 7) rfl) pxo_no (pxo_so px_int)) (px_tup (pxa_cons (px_callB (i := 0) c__law_short (hr.mono (by decide)) rfl (pxa_cons (px_v (i := 7) rfl) pxa_nil) (takes_of rfl rfl rfl rfl)) pxa_nil))))
  (pxs_one (pxs_if (Dx.PW.pxb (pxw_or (pxb_not (pxb_tru (px_v (i := 2) rfl))) (pxw_one (pxb_cmp ox_gt (px_callB (i := 0) c__law_draw (hr.mono (by decide)) rfl (pxa_cons px_int pxa_nil) (takes_of rfl rfl rfl rfl)) px_int (nomark _)) (.inr rfl)))) (pxs_one (pxs_app (i := 3) rfl (px_v (i := 7) rfl))) pxs_nil))))))))
  (pxs_one (pxs_ret (px_bt cx_tuple (pxa_cons (px_v (i := 3) rfl) pxa_nil) B.tuple)))))
abbrev st__law_bent_line : Stmt := topS 53
theorem sc__law_bent_line : FnScope ["stream", "line", "lot", "step", "begin", "end", "lock"] ["stream", "line"] (defScope st__law_bent_line) := ⟨rfl, rfl, rfl, by decide +kernel, rfl, by decide +kernel, by decide +kernel⟩
def m__law_bent_line : Fn := fnB 7 1 2
  (sSeq (sPar 2 3 (aCons (eCallB m__law_draw 0 (aCons (eC (.int 6)) aNil)) (aCons (eCallB m__law_pick 0 (aCons (eLst (aCons (eUn dNeg (eC (.int 1))) (aCons (eC (.int 1)) aNil))) aNil)) aNil)))
  (sSeq (sIf (bAnd (bOf (eOp dEq (eV 2) (eC (.int 0)))) (bAnd (bOf (eOp dEq (eOp dIx (eV 1) (eC (.int 5))) (eTup aNil))) (bOf (eOp dGt (eOp dAdd (eOp dIx (eV 1) (eC (.int 1))) (eV 3)) (eC (.int 0)))))) (sRet (eOp dAdd (eTup (aCons (eOp dIx (eV 1) (eC (.int 0))) (aCons (eOp dAdd (eOp dIx (eV 1) (eC (.int 1))) (eV 3)) (aCons (eOp dMul (eC (.int 2)) (eOp dIx (eV 1) (eC (.int 2)))) aNil)))) (eSl (eV 1) (oSo (eC (.int 3))) oNo))) sNil)
  (sSeq (sIf (bOf (eOp dEq (eV 2) (eC (.int 1)))) (sRet (eOp dAdd (eOp dAdd (eSl (eV 1) oNo (oSo (eC (.int 2)))) (eTup (aCons (eOp dAdd (eOp dIx (eV 1) (eC (.int 2))) (eC (.int 1))) aNil))) (eSl (eV 1) (oSo (eC (.int 3))) oNo))) sNil)
  (sSeq (sIf (bOf (eOp dEq (eV 2) (eC (.int 2)))) (sRet (eOp dAdd (eOp dAdd (eSl (eV 1) oNo (oSo (eC (.int 3)))) (eTup (aCons (eBi fMax (aCons (eC (.int 1)) (aCons (eOp dAdd (eOp dIx (eV 1) (eC (.int 3))) (eV 3)) aNil))) aNil))) (eSl (eV 1) (oSo (eC (.int 4))) oNo))) sNil)
  (sSeq (sIf (bOf (eOp dEq (eV 2) (eC (.int 3)))) (sRet (eOp dAdd (eOp dAdd (eSl (eV 1) oNo (oSo (eC (.int 4)))) (eTup (aCons (eBi fMax (aCons (eC (.int 0)) (aCons (eOp dAdd (eOp dIx (eV 1) (eC (.int 4))) (eV 3)) aNil))) aNil))) (eSl (eV 1) (oSo (eC (.int 5))) oNo))) sNil)
  (sSeq (sIf (bAnd (bOf (eOp dEq (eV 2) (eC (.int 4)))) (bOf (eOp dNe (eOp dIx (eV 1) (eC (.int 5))) (eTup aNil)))) (sRet (eOp dAdd (eSl (eV 1) oNo (oSo (eC (.int 5)))) (eTup (aCons (eSl (eOp dIx (eV 1) (eC (.int 5))) (oSo (eC (.int 1))) oNo) aNil)))) sNil)
  (sRet (eOp dAdd (eSl (eV 1) oNo (oSo (eC (.int 5)))) (eTup (aCons (eBi fTuple (aCons (eFrz (cLc (iSeq (eOp dIx (eV 1) (eC (.int 5)))) (tTup 3 (tCons (tName 4) (tCons (tName 5) (tCons (tName 6) tNil)))) bYes (eTup (aCons (eV 4) (aCons (eV 5) (aCons (eC (.str "locked")) aNil)))) [4, 5, 6])) aNil)) aNil))))))))))
theorem ok__law_bent_line {fa : Addr} {fd : FuncData} (F : Fun K "_law_bent_line" "_law_bent_line" st__law_bent_line fa fd) (B : Bts mg) (c__law_pick : CalX P w K mg base "_law_pick" false 2 1 ["stream", "items"] m__law_pick) (c__law_draw : CalX P w K mg base "_law_draw" false 1 1 ["stream", "high"] m__law_draw) :
    FnG P w K mg base false 3 fa [] (fun vs _ => spF ⟨K, mg⟩ 1 2 m__law_bent_line vs) :=
  fnx F sc__law_bent_line (fun _ _ _ _ _ _ us hl => match us, hl with | [_, _], _ => rfl) fun cdv A outer s H E hr ps G0 H0 pr =>
  (pxs_cons (pxs_par (i := 2) (j := 3) (by rfl) sc__law_bent_line.nd rfl rfl (by decide) rfl rfl (pxa_cons (px_callB (i := 0) c__law_draw (hr.mono (by decide)) rfl (pxa_cons px_int pxa_nil) (takes_of rfl rfl rfl rfl)) (pxa_cons (px_callB (i := 0) c__law_pick (hr.mono (by decide)) rfl (pxa_cons (px_lst (pxa_cons (px_neg px_int) (pxa_cons px_int pxa_nil))) pxa_nil) (takes_of rfl rfl rfl rfl)) pxa_nil)) (by rfl))
  (pxs_cons (pxs_if (Dx.PW.pxb (pxw_and (pxb_cmp (ox_eq hr.units) (px_v (i := 2) rfl) px_int (nomark _)) (pxw_and (pxb_cmp (ox_eq hr.units) (px_ix (px_v (i := 1) rfl) px_int (hu1 hr)) (px_tup pxa_nil) (nomark _)) (pxw_one (pxb_cmp ox_gt (px_op ox_add (px_ix (px_v (i := 1) rfl) px_int (hu1 hr)) (px_v (i := 3) rfl)) px_int (nomark _)) (.inl rfl))))) (pxs_one (pxs_ret (px_op ox_add (px_tup (pxa_cons (px_ix (px_v (i := 1) rfl) px_int (hu1 hr)) (pxa_cons (px_op ox_add (px_ix (px_v (i := 1) rfl) px_int (hu1 hr)) (px_v (i := 3) rfl)) (pxa_cons (px_op ox_mul px_int (px_ix (px_v (i := 1) rfl) px_int (hu1 hr))) pxa_nil)))) (px_sl (px_v (i := 1) rfl) (pxo_so px_int) pxo_no)))) pxs_nil)
  (pxs_cons (pxs_if (pxb_cmp (ox_eq hr.units) (px_v (i := 2) rfl) px_int (nomark _)) (pxs_one (pxs_ret (px_op ox_add (px_op ox_add (px_sl (px_v (i := 1) rfl) pxo_no (pxo_so px_int)) (px_tup (pxa_cons (px_op ox_add (px_ix (px_v (i := 1) rfl) px_int (hu1 hr)) px_int) pxa_nil))) (px_sl (px_v (i := 1) rfl) (pxo_so px_int) pxo_no)))) pxs_nil)
  (pxs_cons (pxs_if (pxb_cmp (ox_eq hr.units) (px_v (i := 2) rfl) px_int (nomark _)) (pxs_one (pxs_ret (px_op ox_add (px_op ox_add (px_sl (px_v (i := 1) rfl) pxo_no (pxo_so px_int)) (px_tup (pxa_cons (px_bi (cx_max rfl) (pxa_cons px_int (pxa_cons (px_op ox_add (px_ix (px_v (i := 1) rfl) px_int (hu1 hr)) (px_v (i := 3) rfl)) pxa_nil)) B.max) pxa_nil))) (px_sl (px_v (i := 1) rfl) (pxo_so px_int) pxo_no)))) pxs_nil)
  (pxs_cons (pxs_if (pxb_cmp (ox_eq hr.units) (px_v (i := 2) rfl) px_int (nomark _)) (pxs_one (pxs_ret (px_op ox_add (px_op ox_add (px_sl (px_v (i := 1) rfl) pxo_no (pxo_so px_int)) (px_tup (pxa_cons (px_bi (cx_max rfl) (pxa_cons px_int (pxa_cons (px_op ox_add (px_ix (px_v (i := 1) rfl) px_int (hu1 hr)) (px_v (i := 3) rfl)) pxa_nil)) B.max) pxa_nil))) (px_sl (px_v (i := 1) rfl) (pxo_so px_int) pxo_no)))) pxs_nil)
  (pxs_cons (pxs_if (Dx.PW.pxb (pxw_and (pxb_cmp (ox_eq hr.units) (px_v (i := 2) rfl) px_int (nomark _)) (pxw_one (pxb_cmp (ox_ne hr.units) (px_ix (px_v (i := 1) rfl) px_int (hu1 hr)) (px_tup pxa_nil) (nomark _)) (.inl rfl)))) (pxs_one (pxs_ret (px_op ox_add (px_sl (px_v (i := 1) rfl) pxo_no (pxo_so px_int)) (px_tup (pxa_cons (px_sl (px_ix (px_v (i := 1) rfl) px_int (hu1 hr)) (pxo_so px_int) pxo_no) pxa_nil))))) pxs_nil)
  (pxs_one (pxs_ret (px_op ox_add (px_sl (px_v (i := 1) rfl) pxo_no (pxo_so px_int)) (px_tup (pxa_cons (px_bt cx_tuple (pxa_cons (px_frz (pxf_lc (own := [("begin", 4), ("end", 5), ("lock", 6)]) (ts := [4, 5, 6]) rfl sc__law_bent_line.nd (pxi_seq (px_ix (px_v (i := 1) rfl) px_int (hu1 hr))) (blkOk_by (own := [("begin", 4), ("end", 5), ("lock", 6)]) (N := ["stream", "line", "lot", "step", "begin", "end", "lock"]) (sc := defScope st__law_bent_line) (by decide +kernel)) (by decide) (fun _ _ _ _ _ pr => (pxg_tup rfl (pxg_cons (pxg_name (i := 4) sc__law_bent_line.nd rfl (by first | exact Or.inl rfl | exact Or.inr rfl)) (pxg_cons (pxg_name (i := 5) sc__law_bent_line.nd rfl (by first | exact Or.inl rfl | exact Or.inr rfl)) (pxg_cons (pxg_name (i := 6) sc__law_bent_line.nd rfl (by first | exact Or.inl rfl | exact Or.inr rfl)) pxg_nil))))) (fun _ _ _ _ _ pr => pxt_nil) (fun _ _ _ _ _ pr => (px_tup (pxa_cons (px_v (i := 4) rfl) (pxa_cons (px_v (i := 5) rfl) (pxa_cons px_str pxa_nil))))))) pxa_nil) B.tuple) pxa_nil)))))))))))
abbrev st__law_bent : Stmt := topS 54
theorem sc__law_bent : FnScope ["stream", "some", "at", "lot"] ["stream", "some"] (defScope st__law_bent) := ⟨rfl, rfl, rfl, by decide +kernel, rfl, by decide +kernel, by decide +kernel⟩
def m__law_bent : Fn := fnB 4 1 2
  (sSeq (sIf (bOf (eOp dEq (eV 1) (eTup aNil))) (sRet (eV 1)) sNil)
  (sSeq (sPar 2 3 (aCons (eCallB m__law_draw 0 (aCons (eBi fLen (aCons (eV 1) aNil)) aNil)) (aCons (eCallB m__law_draw 0 (aCons (eC (.int 5)) aNil)) aNil)))
  (sSeq (sIf (bOf (eOp dEq (eV 3) (eC (.int 0)))) (sRet (eOp dAdd (eSl (eV 1) oNo (oSo (eV 2))) (eSl (eV 1) (oSo (eOp dAdd (eV 2) (eC (.int 1)))) oNo))) sNil)
  (sSeq (sIf (bOf (eOp dEq (eV 3) (eC (.int 1)))) (sRet (eOp dAdd (eSl (eV 1) (oSo (eC (.int 1))) oNo) (eSl (eV 1) oNo (oSo (eC (.int 1)))))) sNil)
  (sSeq (sIf (bOf (eOp dEq (eV 3) (eC (.int 2)))) (sRet (eOp dAdd (eOp dAdd (eSl (eV 1) oNo (oSo (eV 2))) (eTup (aCons (eOp dAdd (eTup (aCons (eC (.str "fresh")) aNil)) (eSl (eOp dIx (eV 1) (eV 2)) (oSo (eC (.int 1))) oNo)) aNil))) (eSl (eV 1) (oSo (eOp dAdd (eV 2) (eC (.int 1)))) oNo))) sNil)
  (sRet (eOp dAdd (eOp dAdd (eSl (eV 1) oNo (oSo (eV 2))) (eTup (aCons (eCallB m__law_bent_line 0 (aCons (eOp dIx (eV 1) (eV 2)) aNil)) aNil))) (eSl (eV 1) (oSo (eOp dAdd (eV 2) (eC (.int 1)))) oNo))))))))
theorem ok__law_bent {fa : Addr} {fd : FuncData} (F : Fun K "_law_bent" "_law_bent" st__law_bent fa fd) (B : Bts mg) (c__law_bent_line : CalX P w K mg base "_law_bent_line" false 3 1 ["stream", "line"] m__law_bent_line) (c__law_draw : CalX P w K mg base "_law_draw" false 1 1 ["stream", "high"] m__law_draw) :
    FnG P w K mg base false 4 fa [] (fun vs _ => spF ⟨K, mg⟩ 1 2 m__law_bent vs) :=
  fnx F sc__law_bent (fun _ _ _ _ _ _ us hl => match us, hl with | [_, _], _ => rfl) fun cdv A outer s H E hr ps G0 H0 pr =>
  (pxs_cons (pxs_if (pxb_cmp (ox_eq hr.units) (px_v (i := 1) rfl) (px_tup pxa_nil) (nomark _)) (pxs_one (pxs_ret (px_v (i := 1) rfl))) pxs_nil)
  (pxs_cons (pxs_par (i := 2) (j := 3) (by rfl) sc__law_bent.nd rfl rfl (by decide) rfl rfl (pxa_cons (px_callB (i := 0) c__law_draw (hr.mono (by decide)) rfl (pxa_cons (px_bi cx_len (pxa_cons (px_v (i := 1) rfl) pxa_nil) B.len) pxa_nil) (takes_of rfl rfl rfl rfl)) (pxa_cons (px_callB (i := 0) c__law_draw (hr.mono (by decide)) rfl (pxa_cons px_int pxa_nil) (takes_of rfl rfl rfl rfl)) pxa_nil)) (by rfl))
  (pxs_cons (pxs_if (pxb_cmp (ox_eq hr.units) (px_v (i := 3) rfl) px_int (nomark _)) (pxs_one (pxs_ret (px_op ox_add (px_sl (px_v (i := 1) rfl) pxo_no (pxo_so (px_v (i := 2) rfl))) (px_sl (px_v (i := 1) rfl) (pxo_so (px_op ox_add (px_v (i := 2) rfl) px_int)) pxo_no)))) pxs_nil)
  (pxs_cons (pxs_if (pxb_cmp (ox_eq hr.units) (px_v (i := 3) rfl) px_int (nomark _)) (pxs_one (pxs_ret (px_op ox_add (px_sl (px_v (i := 1) rfl) (pxo_so px_int) pxo_no) (px_sl (px_v (i := 1) rfl) pxo_no (pxo_so px_int))))) pxs_nil)
  (pxs_cons (pxs_if (pxb_cmp (ox_eq hr.units) (px_v (i := 3) rfl) px_int (nomark _)) (pxs_one (pxs_ret (px_op ox_add (px_op ox_add (px_sl (px_v (i := 1) rfl) pxo_no (pxo_so (px_v (i := 2) rfl))) (px_tup (pxa_cons (px_op ox_add (px_tup (pxa_cons px_str pxa_nil)) (px_sl (px_ix (px_v (i := 1) rfl) (px_v (i := 2) rfl) (hu1 hr)) (pxo_so px_int) pxo_no)) pxa_nil))) (px_sl (px_v (i := 1) rfl) (pxo_so (px_op ox_add (px_v (i := 2) rfl) px_int)) pxo_no)))) pxs_nil)
  (pxs_one (pxs_ret (px_op ox_add (px_op ox_add (px_sl (px_v (i := 1) rfl) pxo_no (pxo_so (px_v (i := 2) rfl))) (px_tup (pxa_cons (px_callB (i := 0) c__law_bent_line (hr.mono (by decide)) rfl (pxa_cons (px_ix (px_v (i := 1) rfl) (px_v (i := 2) rfl) (hu1 hr)) pxa_nil) (takes_of rfl rfl rfl rfl)) pxa_nil))) (px_sl (px_v (i := 1) rfl) (pxo_so (px_op ox_add (px_v (i := 2) rfl) px_int)) pxo_no)))))))))
abbrev st__law_right : Stmt := topS 55
theorem sc__law_right : FnScope ["stream", "some", "other", "lists", "one", "two", "first", "second", "told"] ["stream"] (defScope st__law_right) := ⟨rfl, rfl, rfl, by decide +kernel, rfl, by decide +kernel, by decide +kernel⟩
def m__law_right : Fn := fnB 9 1 1
  (sSeq (sAsg (eCallB m__law_some 0 (aCons (eC (.int 5)) aNil)) (tName 1))
  (sSeq (sAsg (eCallB m__law_easier 0 (aCons (eV 1) (aCons (eC (.bl true)) aNil))) (tName 2))
  (sSeq (sAsg (eLst (aCons (eV 1) (aCons (eV 2) (aCons (eCallB m__law_bent 0 (aCons (eV 1) aNil)) (aCons (eCallB m__law_bent 0 (aCons (eV 2) aNil)) (aCons (eCallB m__law_easier 0 (aCons (eV 2) (aCons (eC (.bl false)) aNil))) aNil)))))) (tName 3))
  (sSeq (sAsg (eOp dAdd (eV 3) (eLst (aCons (eCallB m__law_some 0 (aCons (eC (.int 3)) aNil)) (aCons (eTup aNil) aNil)))) (tName 3))
  (sSeq (sFor (iSeq (eV 3)) (tName 4) (sFor (iSeq (eV 3)) (tName 5) (sSeq (sAsg (eCall m_is_harder (aCons (eCMeth "Tasks" (m_Tasks_of []) (aCons (eV 4) aNil)) (aCons (eCMeth "Tasks" (m_Tasks_of []) (aCons (eV 5) aNil)) aNil))) (tName 8))
  (sIf (bOf (eOp dNe (eBi fRepr (aCons (eV 8) aNil)) (eBi fRepr (aCons (eCall m__law_is_harder (aCons (eV 4) (aCons (eV 5) aNil))) aNil)))) (sRet (eC (.bl false))) sNil))))
  (sSeq (sPar 6 7 (aCons (eCMeth "Tasks" (m_Tasks_of []) (aCons (eV 1) aNil)) (aCons (eCMeth "Tasks" (m_Tasks_of []) (aCons (eV 2) aNil)) aNil)))
  (sSeq (sIf (bOr (bNot (bOf (eCall m_is_harder (aCons (eV 6) (aCons (eV 7) aNil))))) (bNot (bOf (eCall m_is_harder (aCons (eV 6) (aCons (eCMeth "Tasks" (m_Tasks_of []) (aCons (eV 1) aNil)) aNil)))))) (sRet (eC (.bl false))) sNil)
  (sRet (eOp dEq (eLst (aCons (ePropU [("Tasks", (m_Tasks_tasks []))] (eV 6)) (aCons (ePropU [("Tasks", (m_Tasks_tasks []))] (eV 7)) aNil))) (eLst (aCons (eV 1) (aCons (eV 2) aNil))))))))))))
theorem ok__law_right {fa : Addr} {fd : FuncData} (F : Fun K "_law_right" "_law_right" st__law_right fa fd) (B : Bts mg) (P_tasks_Tasks : AllP P w K mg base "tasks" 1 [("Tasks", (m_Tasks_tasks []))]) (c_is_harder : CalX P w K mg base "is_harder" false 8 0 ["tasks", "other"] m_is_harder) (C_Tasks_of : CalC P w K mg base "Tasks" "of" false 8 (m_Tasks_of [])) (c__law_is_harder : CalX P w K mg base "_law_is_harder" false 2 0 ["some", "other"] m__law_is_harder) (c__law_some : CalX P w K mg base "_law_some" false 4 1 ["stream", "most"] m__law_some) (c__law_easier : CalX P w K mg base "_law_easier" false 3 1 ["stream", "some", "parting"] m__law_easier) (c__law_bent : CalX P w K mg base "_law_bent" false 4 1 ["stream", "some"] m__law_bent) :
    FnG P w K mg base true 9 fa [] (fun vs _ => spF ⟨K, mg⟩ 1 1 m__law_right vs) :=
  fnx F sc__law_right (fun _ _ _ _ _ _ us hl => match us, hl with | [_], _ => rfl) fun cdv A outer s H E hr ps G0 H0 pr =>
  (pxs_cons (pxs_set (i := 1) sc__law_right.nd rfl (by first | exact Or.inl rfl | exact Or.inr rfl) (px_callB (i := 0) c__law_some (hr.mono (by decide)) rfl (pxa_cons px_int pxa_nil) (takes_of rfl rfl rfl rfl)))
  (pxs_cons (pxs_set (i := 2) sc__law_right.nd rfl (by first | exact Or.inl rfl | exact Or.inr rfl) (px_callB (i := 0) c__law_easier (hr.mono (by decide)) rfl (pxa_cons (px_v (i := 1) rfl) (pxa_cons px_bl pxa_nil)) (takes_of rfl rfl rfl rfl)))
  (pxs_cons (pxs_set (i := 3) sc__law_right.nd rfl (by first | exact Or.inl rfl | exact Or.inr rfl) (px_lst (pxa_cons (px_v (i := 1) rfl) (pxa_cons (px_v (i := 2) rfl) (pxa_cons (px_callB (i := 0) c__law_bent (hr.mono (by decide)) rfl (pxa_cons (px_v (i := 1) rfl) pxa_nil) (takes_of rfl rfl rfl rfl)) (pxa_cons (px_callB (i := 0) c__law_bent (hr.mono (by decide)) rfl (pxa_cons (px_v (i := 2) rfl) pxa_nil) (takes_of rfl rfl rfl rfl)) (pxa_cons (px_callB (i := 0) c__law_easier (hr.mono (by decide)) rfl (pxa_cons (px_v (i := 2) rfl) (pxa_cons px_bl pxa_nil)) (takes_of rfl rfl rfl rfl)) pxa_nil)))))))
  (pxs_cons (pxs_set (i := 3) sc__law_right.nd rfl (by first | exact Or.inl rfl | exact Or.inr rfl) (px_op ox_add (px_v (i := 3) rfl) (px_lst (pxa_cons (px_callB (i := 0) c__law_some (hr.mono (by decide)) rfl (pxa_cons px_int pxa_nil) (takes_of rfl rfl rfl rfl)) (pxa_cons (px_tup pxa_nil) pxa_nil)))))
  (pxs_cons (pxs_for (ts := [4]) (passes_of rfl) rfl (pxi_seq (px_v (i := 3) rfl)) (pxg_name (i := 4) sc__law_right.nd rfl (by first | exact Or.inl rfl | exact Or.inr rfl)) (pxs_one (pxs_for (ts := [5]) (passes_of rfl) rfl (pxi_seq (px_v (i := 3) rfl)) (pxg_name (i := 5) sc__law_right.nd rfl (by first | exact Or.inl rfl | exact Or.inr rfl)) (pxs_cons (pxs_set (i := 8) sc__law_right.nd rfl (by first | exact Or.inl rfl | exact Or.inr rfl) (px_call c_is_harder (hr.mono (by decide)) (pxa_cons (px_cmeth C_Tasks_of (hr.mono (c := false) (by decide)) (pxa_cons (px_v (i := 4) rfl) pxa_nil) (takes_of rfl rfl rfl rfl)) (pxa_cons (px_cmeth C_Tasks_of (hr.mono (c := false) (by decide)) (pxa_cons (px_v (i := 5) rfl) pxa_nil) (takes_of rfl rfl rfl rfl)) pxa_nil)) (takes_of rfl rfl rfl rfl)))
  (pxs_one (pxs_if (pxb_cmp (ox_ne hr.units) (px_bi (cx_repr (hr.gd rfl) hr.units) (pxa_cons (px_v (i := 8) rfl) pxa_nil) B.repr) (px_bi (cx_repr (hr.gd rfl) hr.units) (pxa_cons (px_call c__law_is_harder (hr.mono (by decide)) (pxa_cons (px_v (i := 4) rfl) (pxa_cons (px_v (i := 5) rfl) pxa_nil)) (takes_of rfl rfl rfl rfl)) pxa_nil) B.repr) (nomark _)) (pxs_one (pxs_ret px_bl)) pxs_nil))))))
  (pxs_cons (pxs_par (i := 6) (j := 7) (by rfl) sc__law_right.nd rfl rfl (by decide) rfl rfl (pxa_cons (px_cmeth C_Tasks_of (hr.mono (c := false) (by decide)) (pxa_cons (px_v (i := 1) rfl) pxa_nil) (takes_of rfl rfl rfl rfl)) (pxa_cons (px_cmeth C_Tasks_of (hr.mono (c := false) (by decide)) (pxa_cons (px_v (i := 2) rfl) pxa_nil) (takes_of rfl rfl rfl rfl)) pxa_nil)) (by rfl))
  (pxs_cons (pxs_if (Dx.PW.pxb (pxw_or (pxb_not (pxb_val (px_call c_is_harder (hr.mono (by decide)) (pxa_cons (px_v (i := 6) rfl) (pxa_cons (px_v (i := 7) rfl) pxa_nil)) (takes_of rfl rfl rfl rfl)))) (pxw_one (pxb_not (pxb_val (px_call c_is_harder (hr.mono (by decide)) (pxa_cons (px_v (i := 6) rfl) (pxa_cons (px_cmeth C_Tasks_of (hr.mono (c := false) (by decide)) (pxa_cons (px_v (i := 1) rfl) pxa_nil) (takes_of rfl rfl rfl rfl)) pxa_nil)) (takes_of rfl rfl rfl rfl)))) (.inr rfl)))) (pxs_one (pxs_ret px_bl)) pxs_nil)
  (pxs_one (pxs_ret (px_cmp (ox_eq hr.units) (px_lst (pxa_cons (px_propU P_tasks_Tasks (hr.mono (c := false) (by decide)) (px_v (i := 6) rfl)) (pxa_cons (px_propU P_tasks_Tasks (hr.mono (c := false) (by decide)) (px_v (i := 7) rfl)) pxa_nil))) (px_lst (pxa_cons (px_v (i := 1) rfl) (pxa_cons (px_v (i := 2) rfl) pxa_nil))) (nomark _)))))))))))
abbrev st__law_stream : Stmt := topS 42
theorem sc__law_stream : FnScope ["script", "at", "cell", "great", "mixed"] ["script", "at"] (defScope st__law_stream) := ⟨rfl, rfl, rfl, by decide +kernel, rfl, by decide +kernel, by decide +kernel⟩
def m__law_stream : Fn := fnB 5 0 2
  (sSeq (sAsg (eOp dAdd (eOp dMul (eC (.int 17)) (eV 1)) (eC (.int 3))) (tName 2))
  (sSeq (sIf (bOf (eOp dLt (eV 1) (eBi fLen (aCons (eV 0) aNil)))) (sAsg (eOp dIx (eV 0) (eV 1)) (tName 2)) sNil)
  (sSeq (sAsg (eOp dMod (eBi fInt (aCons (eBi fAbs (aCons (eV 2) aNil)) aNil)) (eOp dPow (eOp dPow (eC (.int 10)) (eC (.int 60))) (eC (.int 10)))) (tName 3))
  (sSeq (sAsg (eOp dAdd (eOp dAdd (eOp dAdd (eOp dMul (eOp dMod (eBi fInt (aCons (eV 3) aNil)) (eC (.int 2147483477))) (eC (.int 45083))) (eOp dMul (eC (.int 2011)) (eV 1))) (eOp dMul (eC (.int 7)) (eBi fInt (aCons (eOp dLt (eV 2) (eC (.int 0))) aNil)))) (eC (.int 19))) (tName 4))
  (sRetC (cLst (aCons (eBi fMax (aCons (eC (.int 0)) (aCons (eOp dSub (eV 3) (eOp dPow (eC (.int 10)) (eC (.int 18)))) aNil))) (aCons (eOp dMod (eBi fInt (aCons (eV 4) aNil)) (eC (.int 2147483423))) (aCons (eC (.int 0)) aNil)))))))))
theorem ok__law_stream {fa : Addr} {fd : FuncData} (F : Fun K "_law_stream" "_law_stream" st__law_stream fa fd) (B : Bts mg) :
    FnG P w K mg base false 1 fa [] (fun vs _ => spF ⟨K, mg⟩ 0 2 m__law_stream vs) :=
  fnx F sc__law_stream (fun _ _ _ _ _ _ us hl => match us, hl with | [_, _], _ => rfl) fun cdv A outer s H E hr ps G0 H0 pr =>
  (pxs_cons (pxs_set (i := 2) sc__law_stream.nd rfl (by first | exact Or.inl rfl | exact Or.inr rfl) (px_op ox_add (px_op ox_mul px_int (px_v (i := 1) rfl)) px_int))
  (pxs_cons (pxs_if (pxb_cmp ox_lt (px_v (i := 1) rfl) (px_bi cx_len (pxa_cons (px_v (i := 0) rfl) pxa_nil) B.len) (nomark _)) (pxs_one (pxs_set (i := 2) sc__law_stream.nd rfl (by first | exact Or.inl rfl | exact Or.inr rfl) (px_ix (px_v (i := 0) rfl) (px_v (i := 1) rfl) (hu1 hr)))) pxs_nil)
  (pxs_cons (pxs_set (i := 3) sc__law_stream.nd rfl (by first | exact Or.inl rfl | exact Or.inr rfl) (px_op ox_mod (px_bt cx_int (pxa_cons (px_bi cx_abs (pxa_cons (px_v (i := 2) rfl) pxa_nil) B.abs) pxa_nil) B.int) (px_op ox_pow (px_op ox_pow px_int px_int) px_int)))
  (pxs_cons (pxs_set (i := 4) sc__law_stream.nd rfl (by first | exact Or.inl rfl | exact Or.inr rfl) (px_op ox_add (px_op ox_add (px_op ox_add (px_op ox_mul (px_op ox_mod (px_bt cx_int (pxa_cons (px_v (i := 3) rfl) pxa_nil) B.int) px_int) px_int) (px_op ox_mul px_int (px_v (i := 1) rfl))) (px_op ox_mul px_int (px_bt cx_int (pxa_cons (px_cmp ox_lt (px_v (i := 2) rfl) px_int (nomark _)) pxa_nil) B.int))) px_int))
  (pxs_one (pxs_retC (pxf_lst (pxa_cons (px_bi (cx_max rfl) (pxa_cons px_int (pxa_cons (px_op ox_sub (px_v (i := 3) rfl) (px_op ox_pow px_int px_int)) pxa_nil)) B.max) (pxa_cons (px_op ox_mod (px_bt cx_int (pxa_cons (px_v (i := 4) rfl) pxa_nil) B.int) px_int) (pxa_cons px_int pxa_nil))))))))))
abbrev st_law : Stmt := topS 56
theorem sc_law : FnScope ["script", "at", "two", "many", "long", "told", "ten", "last", "stream", "turn", "sign"] ["script"] (defScope st_law) := ⟨rfl, rfl, rfl, by decide +kernel, rfl, by decide +kernel, by decide +kernel⟩
def m_law : Fn := fnB 11 0 1
  (sSeq (sFor (iRange1 (aCons (eBi fMax (aCons (eC (.int 1)) (aCons (eBi fMin (aCons (eC (.int 8)) (aCons (eBi fLen (aCons (eV 0) aNil)) aNil))) aNil))) aNil)) (tName 1) (sSeq (sOwn 8 (cCall m__law_stream (aCons (eV 0) (aCons (eV 1) aNil))))
  (sFor (iRange1 (aCons (eC (.int 3)) aNil)) (tName 9) (sIf (bNot (bOf (eCallB m__law_right 8 aNil))) (sRet (eC (.bl false))) sNil))))
  (sSeq (sAsg (eCMeth "Tasks" (m_Tasks_of []) (aCons (eTup (aCons (eTup (aCons (eC (.str "a")) (aCons (eC (.int 9)) (aCons (eC (.int 50)) (aCons (eC (.int 50)) (aCons (eC (.int 1)) (aCons (eTup (aCons (eTup (aCons (eC (.int 0)) (aCons (eC (.int 3)) (aCons (eC (.str "m")) aNil)))) aNil)) aNil))))))) (aCons (eTup (aCons (eC (.str "b")) (aCons (eC (.int 2)) (aCons (eC (.int 9)) (aCons (eC (.int 9)) (aCons (eC (.int 1)) (aCons (eTup aNil) aNil))))))) aNil))) aNil)) (tName 2))
  (sSeq (sAsg (eCMeth "Tasks" (m_Tasks_of []) (aCons (eTup (aCons (eTup (aCons (eC (.str "a")) (aCons (eC (.int 9)) (aCons (eC (.int 50)) (aCons (eC (.int 50)) (aCons (eC (.int 1)) (aCons (eTup (aCons (eTup (aCons (eC (.int 0)) (aCons (eC (.int 3)) (aCons (eC (.str "m")) aNil)))) (aCons (eTup (aCons (eC (.int 4)) (aCons (eC (.int 7)) (aCons (eC (.str "m")) aNil)))) aNil))) aNil))))))) (aCons (eTup (aCons (eC (.str "b")) (aCons (eC (.int 2)) (aCons (eC (.int 9)) (aCons (eC (.int 9)) (aCons (eC (.int 1)) (aCons (eTup aNil) aNil))))))) aNil))) aNil)) (tName 3))
  (sSeq (sAsg (eCMeth "Tasks" (m_Tasks_of []) (aCons (eTup (aCons (eTup (aCons (eC (.str "a")) (aCons (eC (.int 9)) (aCons (eC (.int 50)) (aCons (eC (.int 50)) (aCons (eC (.int 1)) (aCons (eTup (aCons (eTup (aCons (eC (.int 2)) (aCons (eC (.int 6)) (aCons (eC (.str "m")) aNil)))) aNil)) aNil))))))) (aCons (eTup (aCons (eC (.str "b")) (aCons (eC (.int 2)) (aCons (eC (.int 9)) (aCons (eC (.int 9)) (aCons (eC (.int 1)) (aCons (eTup aNil) aNil))))))) aNil))) aNil)) (tName 4))
  (sSeq (sOwn 5 (cLst (aCons (eCall m_is_harder (aCons (eV 2) (aCons (eV 3) aNil))) (aCons (eCall m_is_harder (aCons (eV 3) (aCons (eV 2) aNil))) (aCons (eCall m_is_harder (aCons (eV 4) (aCons (eV 3) aNil))) (aCons (eCall m_is_harder (aCons (eV 2) (aCons (eV 4) aNil))) aNil))))))
  (sSeq (sAsg (eBi fTuple (aCons (eFrz (cLc (iSeq (eC (.str "abcdefghij"))) (tName 10) bYes (eTup (aCons (eV 10) (aCons (eC (.int 2)) (aCons (eC (.int 40)) (aCons (eC (.int 40)) (aCons (eC (.int 10)) (aCons (eTup aNil) aNil))))))) [10])) aNil)) (tName 6))
  (sSeq (sFor (iSeq (eTup (aCons (eTup (aCons (eC (.str "j")) (aCons (eC (.int 1)) (aCons (eC (.int 40)) (aCons (eC (.int 40)) (aCons (eC (.int 10)) (aCons (eTup aNil) aNil))))))) (aCons (eTup (aCons (eC (.str "j")) (aCons (eC (.int 2)) (aCons (eC (.int 41)) (aCons (eC (.int 40)) (aCons (eC (.int 10)) (aCons (eTup aNil) aNil))))))) (aCons (eTup (aCons (eC (.str "j")) (aCons (eC (.int 2)) (aCons (eC (.int 40)) (aCons (eC (.int 41)) (aCons (eC (.int 10)) (aCons (eTup aNil) aNil))))))) (aCons (eTup (aCons (eC (.str "j")) (aCons (eC (.int 2)) (aCons (eC (.int 40)) (aCons (eC (.int 40)) (aCons (eC (.int 9)) (aCons (eTup aNil) aNil))))))) aNil)))))) (tName 7) (sSeq (sApp 5 (eCall m_is_harder (aCons (eCMeth "Tasks" (m_Tasks_of []) (aCons (eV 6) aNil)) (aCons (eCMeth "Tasks" (m_Tasks_of []) (aCons (eOp dAdd (eSl (eV 6) oNo (oSo (eC (.int 9)))) (eTup (aCons (eV 7) aNil))) aNil)) aNil))))
  (sApp 5 (eNot (eCall m_is_harder (aCons (eCMeth "Tasks" (m_Tasks_of []) (aCons (eOp dAdd (eSl (eV 6) oNo (oSo (eC (.int 9)))) (eTup (aCons (eV 7) aNil))) aNil)) (aCons (eCMeth "Tasks" (m_Tasks_of []) (aCons (eV 6) aNil)) aNil)))))))
  (sRet (eOp dEq (eV 5) (eOp dAdd (eLst (aCons (eC (.bl true)) (aCons (eC (.bl true)) (aCons (eC (.bl true)) (aCons (eC (.bl false)) aNil))))) (eOp dMul (eLst (aCons (eC (.bl true)) aNil)) (eC (.int 8)))))))))))))
theorem ok_law {fa : Addr} {fd : FuncData} (F : Fun K "law" "law" st_law fa fd) (B : Bts mg) (c_is_harder : CalX P w K mg base "is_harder" false 8 0 ["tasks", "other"] m_is_harder) (C_Tasks_of : CalC P w K mg base "Tasks" "of" false 8 (m_Tasks_of [])) (c__law_right : CalX P w K mg base "_law_right" true 9 1 ["stream"] m__law_right) (c__law_stream : CalX P w K mg base "_law_stream" false 1 0 ["script", "at"] m__law_stream) :
    FnG P w K mg base true 10 fa [] (fun vs _ => spF ⟨K, mg⟩ 0 1 m_law vs) :=
  fnx F sc_law (fun _ _ _ _ _ _ us hl => match us, hl with | [_], _ => rfl) fun cdv A outer s H E hr ps G0 H0 pr =>
  (pxs_cons (pxs_for (ts := [1]) (passes_of rfl) rfl (pxi_range1 (pxa_cons (px_bi (cx_max rfl) (pxa_cons px_int (pxa_cons (px_bi (cx_min rfl) (pxa_cons px_int (pxa_cons (px_bi cx_len (pxa_cons (px_v (i := 0) rfl) pxa_nil) B.len) pxa_nil)) B.min) pxa_nil)) B.max) pxa_nil) B.range) (pxg_name (i := 1) sc_law.nd rfl (by first | exact Or.inl rfl | exact Or.inr rfl)) (pxs_cons (pxs_own (i := 8) sc_law.nd rfl (by first | exact Or.inl rfl | exact Or.inr rfl) (pxf_call c__law_stream (hr.mono (by decide)) (pxa_cons (px_v (i := 0) rfl) (pxa_cons (px_v (i := 1) rfl) pxa_nil)) (takes_of rfl rfl rfl rfl)))
  (pxs_one (pxs_for (ts := [9]) (passes_of rfl) rfl (pxi_range1 (pxa_cons px_int pxa_nil) B.range) (pxg_name (i := 9) sc_law.nd rfl (by first | exact Or.inl rfl | exact Or.inr rfl)) (pxs_one (pxs_if (pxb_not (pxb_val (px_callB (i := 8) c__law_right (hr.mono (by decide)) rfl pxa_nil (takes_of rfl rfl rfl rfl)))) (pxs_one (pxs_ret px_bl)) pxs_nil))))))
  (pxs_cons (pxs_set (i := 2) sc_law.nd rfl (by first | exact Or.inl rfl | exact Or.inr rfl) (px_cmeth C_Tasks_of (hr.mono (c := false) (by decide)) (pxa_cons (px_tup (pxa_cons (px_tup (pxa_cons px_str (pxa_cons px_int (pxa_cons px_int (pxa_cons px_int (pxa_cons px_int (pxa_cons (px_tup (pxa_cons (px_tup (pxa_cons px_int (pxa_cons px_int (pxa_cons px_str pxa_nil)))) pxa_nil)) pxa_nil))))))) (pxa_cons (px_tup (pxa_cons px_str (pxa_cons px_int (pxa_cons px_int (pxa_cons px_int (pxa_cons px_int (pxa_cons (px_tup pxa_nil) pxa_nil))))))) pxa_nil))) pxa_nil) (takes_of rfl rfl rfl rfl)))
  (pxs_cons (pxs_set (i := 3) sc_law.nd rfl (by first | exact Or.inl rfl | exact Or.inr rfl) (px_cmeth C_Tasks_of (hr.mono (c := false) (by decide)) (pxa_cons (px_tup (pxa_cons (px_tup (pxa_cons px_str (pxa_cons px_int (pxa_cons px_int (pxa_cons px_int (pxa_cons px_int (pxa_cons (px_tup (pxa_cons (px_tup (pxa_cons px_int (pxa_cons px_int (pxa_cons px_str pxa_nil)))) (pxa_cons (px_tup (pxa_cons px_int (pxa_cons px_int (pxa_cons px_str pxa_nil)))) pxa_nil))) pxa_nil))))))) (pxa_cons (px_tup (pxa_cons px_str (pxa_cons px_int (pxa_cons px_int (pxa_cons px_int (pxa_cons px_int (pxa_cons (px_tup pxa_nil) pxa_nil))))))) pxa_nil))) pxa_nil) (takes_of rfl rfl rfl rfl)))
  (pxs_cons (pxs_set (i := 4) sc_law.nd rfl (by first | exact Or.inl rfl | exact Or.inr rfl) (px_cmeth C_Tasks_of (hr.mono (c := false) (by decide)) (pxa_cons (px_tup (pxa_cons (px_tup (pxa_cons px_str (pxa_cons px_int (pxa_cons px_int (pxa_cons px_int (pxa_cons px_int (pxa_cons (px_tup (pxa_cons (px_tup (pxa_cons px_int (pxa_cons px_int (pxa_cons px_str pxa_nil)))) pxa_nil)) pxa_nil))))))) (pxa_cons (px_tup (pxa_cons px_str (pxa_cons px_int (pxa_cons px_int (pxa_cons px_int (pxa_cons px_int (pxa_cons (px_tup pxa_nil) pxa_nil))))))) pxa_nil))) pxa_nil) (takes_of rfl rfl rfl rfl)))
  (pxs_cons (pxs_own (i := 5) sc_law.nd rfl (by first | exact Or.inl rfl | exact Or.inr rfl) (pxf_lst (pxa_cons (px_call c_is_harder (hr.mono (by decide)) (pxa_cons (px_v (i := 2) rfl) (pxa_cons (px_v (i := 3) rfl) pxa_nil)) (takes_of rfl rfl rfl rfl)) (pxa_cons (px_call c_is_harder (hr.mono (by decide)) (pxa_cons (px_v (i := 3) rfl) (pxa_cons (px_v (i := 2) rfl) pxa_nil)) (takes_of rfl rfl rfl rfl)) (pxa_cons (px_call c_is_harder (hr.mono (by decide)) (pxa_cons (px_v (i := 4) rfl) (pxa_cons (px_v (i := 3) rfl) pxa_nil)) (takes_of rfl rfl rfl rfl)) (pxa_cons (px_call c_is_harder (hr.mono (by decide)) (pxa_cons (px_v (i := 2) rfl) (pxa_cons (px_v (i := 4) rfl) pxa_nil)) (takes_of rfl rfl rfl rfl)) pxa_nil))))))
  (pxs_cons (pxs_set (i := 6) sc_law.nd rfl (by first | exact Or.inl rfl | exact Or.inr rfl) (px_bt cx_tuple (pxa_cons (px_frz (pxf_lc (own := [("sign", 10)]) (ts := [10]) rfl sc_law.nd (pxi_seq px_str) (blkOk_by (own := [("sign", 10)]) (N := ["script", "at", "two", "many", "long", "told", "ten", "last", "stream", "turn", "sign"]) (sc := defScope st_law) (by decide +kernel)) (by decide) (fun _ _ _ _ _ pr => (pxg_name (i := 10) sc_law.nd rfl (by first | exact Or.inl rfl | exact Or.inr rfl))) (fun _ _ _ _ _ pr => pxt_nil) (fun _ _ _ _ _ pr => (px_tup (pxa_cons (px_v (i := 10) rfl) (pxa_cons px_int (pxa_cons px_int (pxa_cons px_int (pxa_cons px_int (pxa_cons (px_tup pxa_nil) pxa_nil)))))))))) pxa_nil) B.tuple))
  (pxs_cons (pxs_for (ts := [7]) (passes_of rfl) rfl (pxi_seq (px_tup (pxa_cons (px_tup (pxa_cons px_str (pxa_cons px_int (pxa_cons px_int (pxa_cons px_int (pxa_cons px_int (pxa_cons (px_tup pxa_nil) pxa_nil))))))) (pxa_cons (px_tup (pxa_cons px_str (pxa_cons px_int (pxa_cons px_int (pxa_cons px_int (pxa_cons px_int (pxa_cons (px_tup pxa_nil) pxa_nil))))))) (pxa_cons (px_tup (pxa_cons px_str (pxa_cons px_int (pxa_cons px_int (pxa_cons px_int (pxa_cons px_int (pxa_cons (px_tup pxa_nil) pxa_nil))))))) (pxa_cons (px_tup (pxa_cons px_str (pxa_cons px_int (pxa_cons px_int (pxa_cons px_int (pxa_cons px_int (pxa_cons (px_tup pxa_nil) pxa_nil))))))) pxa_nil)))))) (pxg_name (i := 7) sc_law.nd rfl (by first | exact Or.inl rfl | exact Or.inr rfl)) (pxs_cons (pxs_app (i := 5) rfl (px_call c_is_harder (hr.mono (by decide)) (pxa_cons (px_cmeth C_Tasks_of (hr.mono (c := false) (by decide)) (pxa_cons (px_v (i := 6) rfl) pxa_nil) (takes_of rfl rfl rfl rfl)) (pxa_cons (px_cmeth C_Tasks_of (hr.mono (c := false) (by decide)) (pxa_cons (px_op ox_add (px_sl (px_v (i := 6) rfl) pxo_no (pxo_so px_int)) (px_tup (pxa_cons (px_v (i := 7) rfl) pxa_nil))) pxa_nil) (takes_of rfl rfl rfl rfl)) pxa_nil)) (takes_of rfl rfl rfl rfl)))
  (pxs_one (pxs_app (i := 5) rfl (px_not (px_call c_is_harder (hr.mono (by decide)) (pxa_cons (px_cmeth C_Tasks_of (hr.mono (c := false) (by decide)) (pxa_cons (px_op ox_add (px_sl (px_v (i := 6) rfl) pxo_no (pxo_so px_int)) (px_tup (pxa_cons (px_v (i := 7) rfl) pxa_nil))) pxa_nil) (takes_of rfl rfl rfl rfl)) (pxa_cons (px_cmeth C_Tasks_of (hr.mono (c := false) (by decide)) (pxa_cons (px_v (i := 6) rfl) pxa_nil) (takes_of rfl rfl rfl rfl)) pxa_nil)) (takes_of rfl rfl rfl rfl)))))))
  (pxs_one (pxs_ret (px_cmp (ox_eq hr.units) (px_v (i := 5) rfl) (px_op ox_add (px_lst (pxa_cons px_bl (pxa_cons px_bl (pxa_cons px_bl (pxa_cons px_bl pxa_nil))))) (px_op ox_mul (px_lst (pxa_cons px_bl pxa_nil)) px_int)) (nomark _)))))))))))
end
end Dw

set_option Elab.async false
set_option linter.all false
set_option maxRecDepth 100000
set_option maxHeartbeats 0
namespace Hd
open PySem PySem.Spec PyProof.Rows L2
/-! ### the head: facts by names, the run -/
def fn : List Hy.DefY := [⟨Hy.atP "Tasks" "tasks", "tasks", "Tasks.tasks", Dw.st_Tasks_tasks, [], []⟩,
  ⟨Hy.atG "is_name", "is_name", "is_name", Dw.st_is_name, [], []⟩,
  ⟨Hy.atG "is_whole", "is_whole", "is_whole", Dw.st_is_whole, [], []⟩,
  ⟨Hy.atG "_is_section", "_is_section", "_is_section", Dw.st__is_section, [], []⟩,
  ⟨Hy.atG "_are_sections", "_are_sections", "_are_sections", Dw.st__are_sections, [], []⟩,
  ⟨Hy.atG "is_between", "is_between", "is_between", Dw.st_is_between, [], []⟩,
  ⟨Hy.atG "_are_numbers", "_are_numbers", "_are_numbers", Dw.st__are_numbers, [], []⟩,
  ⟨Hy.atG "is_task", "is_task", "is_task", Dw.st_is_task, [], []⟩,
  ⟨Hy.atG "check_task", "check_task", "check_task", Dw.st_check_task, [], []⟩,
  ⟨Hy.atG "section_lengths", "section_lengths", "section_lengths", Dw.st_section_lengths, [], []⟩,
  ⟨Hy.atG "_is_harder_task", "_is_harder_task", "_is_harder_task", Dw.st__is_harder_task, [], []⟩,
  ⟨Hy.atM "Tasks" "__contains__", "__contains__", "Tasks.__contains__", Dw.st_Tasks___contains__, [], []⟩,
  ⟨Hy.atM "Tasks" "urgency", "urgency", "Tasks.urgency", Dw.st_Tasks_urgency, [], []⟩,
  ⟨Hy.atM "Tasks" "__getitem__", "__getitem__", "Tasks.__getitem__", Dw.st_Tasks___getitem__, [], []⟩,
  ⟨Hy.atP "Tasks" "names", "names", "Tasks.names", Dw.st_Tasks_names, [], []⟩,
  ⟨Hy.atG "check_tasks", "check_tasks", "check_tasks", Dw.st_check_tasks, [], []⟩,
  ⟨Hy.atG "is_harder", "is_harder", "is_harder", Dw.st_is_harder, [], []⟩,
  ⟨Hy.atG "_ceilings", "_ceilings", "_ceilings", Dw.st__ceilings, [], []⟩,
  ⟨Hy.atG "_share", "_share", "_share", Dw.st__share, [], []⟩,
  ⟨Hy.atG "_check_rows", "_check_rows", "_check_rows", Dw.st__check_rows, [], []⟩,
  ⟨Hy.atM "Tasks" "__init__", "__init__", "Tasks.__init__", Dw.st_Tasks___init__, [], []⟩,
  ⟨Hy.atC "Tasks" "of", "of", "Tasks.of", Dw.st_Tasks_of, [], []⟩,
  ⟨Hy.atG "_law_is_longer", "_law_is_longer", "_law_is_longer", Dw.st__law_is_longer, [], []⟩,
  ⟨Hy.atG "_law_is_harder", "_law_is_harder", "_law_is_harder", Dw.st__law_is_harder, [], []⟩,
  ⟨Hy.atG "_law_draw", "_law_draw", "_law_draw", Dw.st__law_draw, [], []⟩,
  ⟨Hy.atG "_law_mixed", "_law_mixed", "_law_mixed", Dw.st__law_mixed, [], []⟩,
  ⟨Hy.atG "_law_names", "_law_names", "_law_names", Dw.st__law_names, [], []⟩,
  ⟨Hy.atG "_law_pick", "_law_pick", "_law_pick", Dw.st__law_pick, [], []⟩,
  ⟨Hy.atG "_law_sections", "_law_sections", "_law_sections", Dw.st__law_sections, [], []⟩,
  ⟨Hy.atG "_law_some", "_law_some", "_law_some", Dw.st__law_some, [], []⟩,
  ⟨Hy.atG "_law_short", "_law_short", "_law_short", Dw.st__law_short, [], []⟩,
  ⟨Hy.atG "_law_easier", "_law_easier", "_law_easier", Dw.st__law_easier, [], []⟩,
  ⟨Hy.atG "_law_bent_line", "_law_bent_line", "_law_bent_line", Dw.st__law_bent_line, [], []⟩,
  ⟨Hy.atG "_law_bent", "_law_bent", "_law_bent", Dw.st__law_bent, [], []⟩,
  ⟨Hy.atG "_law_right", "_law_right", "_law_right", Dw.st__law_right, [], []⟩,
  ⟨Hy.atG "_law_stream", "_law_stream", "_law_stream", Dw.st__law_stream, [], []⟩,
  ⟨Hy.atG "law", "law", "law", Dw.st_law, [], []⟩]
def fs : List (PySem.W.Frag → Bool) := [Hy.faB (.free "len"),
  Hy.faB (.free "int"),
  Hy.faB (.free "abs"),
  Hy.faB (.free "max"),
  Hy.faB (.free "list"),
  Hy.faB (.free "range"),
  Hy.faB (.free "tuple"),
  Hy.faB (.free "enumerate"),
  Hy.faB (.free "str"),
  Hy.faB (.free "bool"),
  Hy.faB (.free "isinstance"),
  Hy.faB (.free "all"),
  Hy.faB (.free "zip"),
  Hy.faB (.free "sorted"),
  Hy.faB (.free "dict"),
  Hy.faB (.free "set"),
  Hy.faB (.free "repr"),
  Hy.faB (.free "min"),
  Hy.faB (.free "sum"),
  Hy.faB (.free "any"),
  Hy.faB (.glo "is_name"),
  Hy.faB (.glo "is_whole"),
  Hy.faB (.glo "_is_section"),
  Hy.faB (.glo "_are_sections"),
  Hy.faB (.glo "is_between"),
  Hy.faB (.glo "_are_numbers"),
  Hy.faB (.glo "is_task"),
  Hy.faB (.glo "check_task"),
  Hy.faB (.glo "section_lengths"),
  Hy.faB (.glo "_is_harder_task"),
  Hy.faB (.glo "check_tasks"),
  Hy.faB (.glo "is_harder"),
  Hy.faB (.glo "_ceilings"),
  Hy.faB (.glo "_share"),
  Hy.faB (.glo "_check_rows"),
  Hy.faB (.glo "_law_is_longer"),
  Hy.faB (.glo "_law_is_harder"),
  Hy.faB (.glo "_law_draw"),
  Hy.faB (.glo "_law_mixed"),
  Hy.faB (.glo "_law_names"),
  Hy.faB (.glo "_law_pick"),
  Hy.faB (.glo "_law_sections"),
  Hy.faB (.glo "_law_some"),
  Hy.faB (.glo "_law_short"),
  Hy.faB (.glo "_law_easier"),
  Hy.faB (.glo "_law_bent_line"),
  Hy.faB (.glo "_law_bent"),
  Hy.faB (.glo "_law_right"),
  Hy.faB (.glo "_law_stream"),
  Hy.faB (.glo "law"),
  Hy.faB (.glo "Tasks"),
  Hy.faB (.cls "Tasks"),
  Hy.faB (.noat "Tasks" "_tasks"),
  Hy.propB "Tasks" "tasks",
  Hy.faB (.int "SECTIONS" 5),
  Hy.faB (.int "MAX_LETTERS" 8),
  Hy.faB (.int "MAX_SECTIONS" 8),
  Hy.faB (.int "LONGEST" 1),
  Hy.faB (.glo "GREATEST_NUMBERS"),
  Hy.tupF "GREATEST_NUMBERS" [(.int 100), (.int 1000), (.int 20000), (.int 1000000)],
  Hy.faB (.glo "LEAST_NUMBERS"),
  Hy.tupF "LEAST_NUMBERS" [(.int 1), (.int 1), (.int 1), (.int 0)],
  Hy.faB (.int "NAME" 0),
  Hy.faB (.glo "FIELDS"),
  Hy.tupF "FIELDS" [(.str "name"), (.str "longest"), (.str "gap"), (.str "deadline"), (.str "room"), (.str "sections")],
  Hy.faB (.glo "InvalidTask"),
  Hy.faB (.exc "InvalidTask"),
  Hy.faB (.int "DEADLINE" 3),
  Hy.faB (.int "GAP" 2),
  Hy.faB (.int "ROOM" 4),
  Hy.faB (.noat "Tasks" "_urgencies"),
  Hy.faB (.meth "Tasks" "__contains__"),
  Hy.faB (.meth "Tasks" "urgency"),
  Hy.faB (.meth "Tasks" "__getitem__"),
  Hy.fnB1 "Tasks" "__getitem__",
  Hy.faB (.noat "Tasks" "_names"),
  Hy.propB "Tasks" "names",
  Hy.insB "Tasks",
  Hy.faB (.glo "InvalidTasks"),
  Hy.faB (.exc "InvalidTasks"),
  Hy.readB "Tasks",
  Hy.cmB "Tasks" "of",
  Hy.faB (.mkr "Tasks"),
  Hy.faB (.noat "Tasks" "_locks"),
  Hy.faB (.noat "Tasks" "_load"),
  Hy.bltB "gcd" "math.gcd",
  Hy.valB "Tasks" "MAX_TASKS" (.int 10)]
def loose0 : List Str := ["_wall", "HoldError", "InvalidTask", "InvalidTasks", "InvalidOperation", "UnknownName", "TooMany", "Overload", "is_whole", "is_between", "FIELDS", "NAME", "LONGEST", "GAP", "DEADLINE", "ROOM", "SECTIONS", "LEAST_NUMBERS", "GREATEST_NUMBERS", "MAX_LETTERS"]
def loose1 : List Str := ["MAX_SECTIONS", "is_name", "_is_section", "_are_sections", "_are_numbers", "is_task", "check_task", "section_lengths", "_share", "_ceilings", "_check_rows", "Tasks", "check_tasks", "_is_harder_task", "is_harder", "_law_stream", "_law_draw", "_law_pick", "_law_mixed", "_law_names"]
def loose2 : List Str := ["_law_sections", "_law_some", "_law_short", "_law_easier", "_law_is_longer", "_law_is_harder", "_law_bent_line", "_law_bent", "_law_right"]
abbrev loose : List Str := loose0 ++ loose1 ++ loose2
abbrev lawAt : Nat := 56
abbrev R : PySem.W.OpenRow := PySem.W.OpenLaw.row PySem.Challenge.rw_holdlevels_k74_harder_tasks_judged
abbrev hk : PySem.W.Hook := Hy.hookY 5 fs fn
def ob (s : PySem.W.SharedT) : Hy.AlY := Hy.obsY 5 fs fn (HandSHeadRun.getT s)
theorem ob_eq (s : PySem.W.SharedT) : ob s = hk.obs s.abs := Hy.obsY_eq (HandSHeadRun.getT_eq s)
set_option maxHeartbeats 0 in
theorem run (w : World) : HandSHeadRun.RunEqI R (PySem.W.view R.prog [0, lawAt]) hk ob 6000 loose w := by
  unfold HandSHeadRun.RunEqI
  kernel_rfl
end Hd


set_option Elab.async false
set_option linter.all false
set_option maxRecDepth 100000
set_option maxHeartbeats 4000000
/-! the law's draws -/
namespace Dw
open PySem PySem.Spec PyProof.Rows L2 Gd Dx
def StOk (c : Cell) : Prop := ∃ x y z : Int, c = .lst [.int x, .int y, .int z]
theorem log_le {n : Int} (h : n ≤ 2 ^ 60) (h0 : 0 < n) : n.natAbs.log2 < 9000 := by
  have : n.natAbs.log2 < 61 := (Nat.log2_lt (by omega)).mpr (by omega)
  omega
theorem mod_sm (i : Int) {m : Int} (h : 0 < m) (h2 : m < 2 ^ 64) : -(2 ^ 64) < i % m ∧ i % m < 2 ^ 64 := by
  have a := Int.emod_nonneg i (show m ≠ 0 by omega)
  have b := Int.emod_lt_of_pos i h
  omega
theorem draw_ok {c : Cell} (h : StOk c) {n : Int} (h0 : 0 < n) (h1 : n ≤ 2 ^ 60) : ∃ r c', m__law_draw [c] [.int n] = .ok (.int r) [c'] ∧ 0 ≤ r ∧ r < n ∧ StOk c' := by
  obtain ⟨x, y, z, rfl⟩ := h
  have hn := log_le h1 h0
  by_cases hx : 0 < x
  · refine ⟨x % n, .lst [.int (x / n), .int y, .int z], ?_, Int.emod_nonneg _ (by omega), Int.emod_lt_of_pos _ h0, x / n, y, z, rfl⟩
    simp [-Re.bind, ↓bind_m, fnB, start0, endB, bors, Slot.lent, dLe, dLt, dGt, dGe, dAdd, dSub, dMul, dMod, dDiv, fInt, dIx, atI, fLen, dLen, fTuple, wipeE, restE, noMut, itemsD, dSl, ixN, m__law_draw, hx, h0, hn]
  · have a1 : okMul 1000249 (z + 1) = true := okMul_l _ (by decide) (by decide)
    have a4 : okMul 6871 (z + 1) = true := okMul_l _ (by decide) (by decide)
    have s1 := mod_sm (y + 1000249 * (z + 1)) (m := 2305843009213693951) (by decide) (by decide)
    have s2 := mod_sm (((y + 1000249 * (z + 1)) % 2305843009213693951) * ((y + 1000249 * (z + 1)) % 2305843009213693951)) (m := 2305843009213693921) (by decide) (by decide)
    have a2 := okMul_l ((y + 1000249 * (z + 1)) % 2305843009213693951) s1.1 s1.2
    have a3 := okMul_l ((y + 1000249 * (z + 1)) % 2305843009213693951) s2.1 s2.2
    refine ⟨((((y + 1000249 * (z + 1)) % 2305843009213693951) * ((y + 1000249 * (z + 1)) % 2305843009213693951) % 2305843009213693921 * ((y + 1000249 * (z + 1)) % 2305843009213693951) + 6871 * (z + 1)) % 2305843009213693907 / 8192) % n, .lst [.int x, .int y, .int (z + 1)], ?_, Int.emod_nonneg _ (by omega), Int.emod_lt_of_pos _ h0, x, y, z + 1, rfl⟩
    have l2 : Nat.log2 8192 < 9000 := by decide
    simp [-Re.bind, ↓bind_m, fnB, start0, endB, bors, Slot.lent, dLe, dLt, dGt, dGe, dAdd, dSub, dMul, dMod, dDiv, fInt, dIx, atI, fLen, dLen, fTuple, wipeE, restE, noMut, itemsD, dSl, ixN, m__law_draw, hx, h0, a1, a2, a3, a4, l2]
theorem pick_ok {c : Cell} (h : StOk c) {xs : List D} (h0 : xs ≠ []) (h1 : xs.length ≤ big) : ∃ d c', m__law_pick [c] [.lst xs] = .ok d [c'] ∧ d ∈ xs ∧ StOk c' := by
  have hl : 0 < xs.length := List.length_pos_iff.mpr h0
  have hb : xs.length ≤ 1000000 := h1
  obtain ⟨r, c', e, g0, g1, s⟩ := draw_ok h (n := (xs.length : Int)) (by omega) (by omega)
  have hr : r.toNat < xs.length := by omega
  refine ⟨xs[r.toNat], c', ?_, List.getElem_mem _, s⟩
  have hneg : ¬ r < 0 := by omega
  simp [-Re.bind, ↓bind_m, fnB, start0, endB, bors, Slot.lent, dLe, dLt, dGt, dGe, dAdd, dSub, dMul, dMod, dDiv, fInt, dIx, atI, fLen, dLen, fTuple, wipeE, restE, noMut, itemsD, dSl, ixN, m__law_pick, e, hneg, hr, g0, g1]
theorem pickT_ok {c : Cell} (h : StOk c) {xs : List D} (h0 : xs ≠ []) (h1 : xs.length ≤ big) : ∃ d c', m__law_pick [c] [.tup xs] = .ok d [c'] ∧ d ∈ xs ∧ StOk c' := by
  have hl : 0 < xs.length := List.length_pos_iff.mpr h0
  have hb : xs.length ≤ 1000000 := h1
  obtain ⟨r, c', e, g0, g1, s⟩ := draw_ok h (n := (xs.length : Int)) (by omega) (by omega)
  have hr : r.toNat < xs.length := by omega
  refine ⟨xs[r.toNat], c', ?_, List.getElem_mem _, s⟩
  have hneg : ¬ r < 0 := by omega
  simp [-Re.bind, ↓bind_m, fnB, start0, endB, bors, Slot.lent, dLe, dLt, dGt, dGe, dAdd, dSub, dMul, dMod, dDiv, fInt, dIx, atI, fLen, dLen, fTuple, wipeE, restE, noMut, itemsD, dSl, ixN, m__law_pick, e, hneg, hr, g0, g1]
theorem cons_erase : ∀ {l : List D} {i : Nat} (h : i < l.length), (l[i] :: l.eraseIdx i).Perm l
  | [], _, h => nomatch h
  | _ :: _, 0, _ => .refl _
  | x :: r, i + 1, h => by
    have h' : i < r.length := by simpa [-Re.bind, ↓bind_m, fnB, start0, endB, bors, Slot.lent, dLe, dLt, dGt, dGe, dAdd, dSub, dMul, dMod, dDiv, fInt, dIx, atI, fLen, dLen, fTuple, wipeE, restE, noMut, itemsD, dSl, ixN] using h
    exact (List.Perm.swap x _ _).trans ((cons_erase h').cons x)
theorem mixed_loop {it : D} : ∀ (ds : List D) (c : Cell) (left : List D), StOk c → ds.length = left.length → left.length ≤ big →
    ∃ ys c', lcL (tName 3) bYes (ePop 2 (eCallB m__law_draw 0 (aCons (eLenO 2) aNil))) [3] ds [.bor c, .dat it, .own (.lst left), .no] = .ok ys [.bor c', .dat it, .own (.lst []), .no] ∧ ys.Perm left ∧ StOk c'
  | [], c, left, h, hl, _ => by
    have : left = [] := List.eq_nil_of_length_eq_zero hl.symm
    subst this
    exact ⟨[], c, rfl, .refl _, h⟩
  | d :: r, c, left, h, hl, hb => by
    have hb' : left.length ≤ 1000000 := hb
    have hp : 0 < left.length := by rw [← hl]; simp [-Re.bind, ↓bind_m, fnB, start0, endB, bors, Slot.lent, dLe, dLt, dGt, dGe, dAdd, dSub, dMul, dMod, dDiv, fInt, dIx, atI, fLen, dLen, fTuple, wipeE, restE, noMut, itemsD, dSl, ixN]
    obtain ⟨k, c1, e, g0, g1, s⟩ := draw_ok h (n := (left.length : Int)) (by omega) (by omega)
    have hk : k.toNat < left.length := by omega
    have he : (left.eraseIdx k.toNat).length + 1 = left.length := by rw [List.length_eraseIdx_of_lt hk]; omega
    obtain ⟨ys, c', e2, pm, s2⟩ := mixed_loop (it := it) r c1 (left.eraseIdx k.toNat) s (by simp only [List.length_cons] at hl; omega) (by show _ ≤ 1000000; omega)
    have h63 : k.natAbs < 2 ^ 63 := by omega
    refine ⟨left[k.toNat] :: ys, c', ?_, (pm.cons _).trans (cons_erase hk), s2⟩
    simp [-Re.bind, ↓bind_m, fnB, start0, endB, bors, Slot.lent, dLe, dLt, dGt, dGe, dAdd, dSub, dMul, dMod, dDiv, fInt, dIx, atI, fLen, dLen, fTuple, wipeE, restE, noMut, itemsD, dSl, ixN, lcL, e, g0, g1, h63, hk, e2]
theorem mixed_ok {c : Cell} (h : StOk c) {xs : List D} (hb : xs.length ≤ big) : ∃ ys c', m__law_mixed [c] [.lst xs] = .ok (.lst ys) [c'] ∧ ys.Perm xs ∧ StOk c' := by
  have hb' : xs.length ≤ 1000000 := hb
  have hr : (rngD 0 xs.length).length = xs.length := by simp [-Re.bind, ↓bind_m, fnB, start0, endB, bors, Slot.lent, dLe, dLt, dGt, dGe, dAdd, dSub, dMul, dMod, dDiv, fInt, dIx, atI, fLen, dLen, fTuple, wipeE, restE, noMut, itemsD, dSl, ixN, rngD]
  obtain ⟨ys, c', e, pm, s⟩ := mixed_loop (it := .lst xs) (rngD 0 xs.length) c xs h hr hb
  refine ⟨ys, c', ?_, pm, s⟩
  have ok : okR (xs.length : Int) = true := okR_of (by omega) (by omega)
  simp [-Re.bind, ↓bind_m, fnB, start0, endB, bors, Slot.lent, dLe, dLt, dGt, dGe, dAdd, dSub, dMul, dMod, dDiv, fInt, dIx, atI, fLen, dLen, fTuple, wipeE, restE, noMut, itemsD, dSl, ixN, m__law_mixed, lList, hb', ok, hr, e]
theorem mixedT_ok {c : Cell} (h : StOk c) {xs : List D} (hb : xs.length ≤ big) : ∃ ys c', m__law_mixed [c] [.tup xs] = .ok (.lst ys) [c'] ∧ ys.Perm xs ∧ StOk c' := by
  have hb' : xs.length ≤ 1000000 := hb
  have hr : (rngD 0 xs.length).length = xs.length := by simp [-Re.bind, ↓bind_m, fnB, start0, endB, bors, Slot.lent, dLe, dLt, dGt, dGe, dAdd, dSub, dMul, dMod, dDiv, fInt, dIx, atI, fLen, dLen, fTuple, wipeE, restE, noMut, itemsD, dSl, ixN, rngD]
  obtain ⟨ys, c', e, pm, s⟩ := mixed_loop (it := .tup xs) (rngD 0 xs.length) c xs h hr hb
  refine ⟨ys, c', ?_, pm, s⟩
  have ok : okR (xs.length : Int) = true := okR_of (by omega) (by omega)
  simp [-Re.bind, ↓bind_m, fnB, start0, endB, bors, Slot.lent, dLe, dLt, dGt, dGe, dAdd, dSub, dMul, dMod, dDiv, fInt, dIx, atI, fLen, dLen, fTuple, wipeE, restE, noMut, itemsD, dSl, ixN, m__law_mixed, lList, hb', ok, hr, e]
end Dw


set_option Elab.async false
set_option linter.all false
set_option maxRecDepth 100000
set_option maxHeartbeats 4000000
/-! the checks of a task, for all data -/
namespace Dw
open PySem PySem.Spec PyProof.Rows L2 Gd Dx
mutual
def dt : D → Bool
  | .non => true
  | .bl _ => true
  | .int _ => true
  | .str _ => true
  | .tup xs => dts xs
  | .lst xs => dts xs
  | .dic ks => dtk ks
  | _ => false
def dts : List D → Bool
  | [] => true
  | d :: r => dt d && dts r
def dtk : List (Key × D) → Bool
  | [] => true
  | (_, d) :: r => dt d && dtk r
end

theorem dts_mem : ∀ {xs : List D}, dts xs = true → ∀ d ∈ xs, dt d = true
  | [], _, _, h => nomatch h
  | x :: r, e, d, h => by
    simp only [dts, Bool.and_eq_true] at e
    rcases List.mem_cons.mp h with rfl | h
    · exact e.1
    · exact dts_mem e.2 d h
def isW : D → Bool
  | .int _ => true
  | _ => false
theorem is_whole_eq {d : D} (h : dt d = true) : m_is_whole [] [d] = .ok (.bl (isW d)) [] := by
  cases d <;> first | (simp [-Re.bind, ↓bind_m, fnB, start0, endB, bors, Slot.lent, dLe, dLt, dGt, dGe, dAdd, dSub, dIx, atI, fLen, dLen, fTuple, fIsi, tyD, isB, wipeE, restE, noMut, itemsD, dSl, dt] at h; done) | simp [-Re.bind, ↓bind_m, fnB, start0, endB, bors, Slot.lent, dLe, dLt, dGt, dGe, dAdd, dSub, dIx, atI, fLen, dLen, fTuple, fIsi, tyD, isB, wipeE, restE, noMut, itemsD, dSl, m_is_whole, isW]
def betwB (lo hi : Int) : D → Bool
  | .int i => decide (lo ≤ i) && decide (i ≤ hi)
  | _ => false
theorem is_between_eq {d : D} {lo hi : Int} (h : dt d = true) : m_is_between [] [d, .int lo, .int hi] = .ok (.bl (betwB lo hi d)) [] := by
  simp only [m_is_between, fnB, start0]
  cases d <;> first | (simp [-Re.bind, ↓bind_m, fnB, start0, endB, bors, Slot.lent, dLe, dLt, dGt, dGe, dAdd, dSub, dIx, atI, fLen, dLen, fTuple, fIsi, tyD, isB, wipeE, restE, noMut, itemsD, dSl, dt] at h; done) | (simp [-Re.bind, ↓bind_m, fnB, start0, endB, bors, Slot.lent, dLe, dLt, dGt, dGe, dAdd, dSub, dIx, atI, fLen, dLen, fTuple, fIsi, tyD, isB, wipeE, restE, noMut, itemsD, dSl, is_whole_eq h, isW, betwB]; done) | skip
  rename_i i
  by_cases a : lo ≤ i <;> simp [-Re.bind, ↓bind_m, fnB, start0, endB, bors, Slot.lent, dLe, dLt, dGt, dGe, dAdd, dSub, dIx, atI, fLen, dLen, fTuple, fIsi, tyD, isB, wipeE, restE, noMut, itemsD, dSl, is_whole_eq h, isW, betwB, a]
def nameB : D → Bool
  | .str z => decide (1 ≤ z.length) && decide (z.length ≤ 8) && z.cps.toList.all (fun c => decide (97 ≤ c) && decide (c ≤ 122))
  | _ => false

theorem lt1 (a b : Nat) : ([a] : List Nat) < [b] ↔ a < b := by
  constructor
  · intro h
    cases h with
    | rel h => exact h
    | cons h => cases h
  · exact fun h => .rel h
theorem le_a (c : Nat) : dLe (.str "a") (.str ⟨#[c]⟩) = some (.bl (decide (97 ≤ c))) := by
  show some (D.bl (!decide ([c] < (("a" : Str)).cps.toList))) = _
  rw [show (("a" : Str)).cps.toList = [97] by decide +kernel]
  by_cases h : 97 ≤ c
  · rw [decide_eq_false (fun z => by have := (lt1 _ _).mp z; omega), decide_eq_true h]; rfl
  · rw [decide_eq_true ((lt1 _ _).mpr (by omega)), decide_eq_false h]; rfl
theorem le_z (c : Nat) : dLe (.str ⟨#[c]⟩) (.str "z") = some (.bl (decide (c ≤ 122))) := by
  show some (D.bl (!decide ((("z" : Str)).cps.toList < [c]))) = _
  rw [show (("z" : Str)).cps.toList = [122] by decide +kernel]
  by_cases h : c ≤ 122
  · rw [decide_eq_false (fun z => by have := (lt1 _ _).mp z; omega), decide_eq_true h]; rfl
  · rw [decide_eq_true ((lt1 _ _).mpr (by omega)), decide_eq_false h]; rfl
theorem letter_eq {a : Slot} (c : Nat) : eChain dLe dLe (eC (.str "a")) (eV 1) (eC (.str "z")) [a, .dat (.str ⟨#[c]⟩)] = .ok (.bl (decide (97 ≤ c) && decide (c ≤ 122))) [a, .dat (.str ⟨#[c]⟩)] := by
  have e : eV 1 [a, .dat (.str ⟨#[c]⟩)] = .ok (.str ⟨#[c]⟩) [a, .dat (.str ⟨#[c]⟩)] := rfl
  simp only [eChain, eC, bind_ok, e, le_a, le_z]
  by_cases h : 97 ≤ c
  · simp only [decide_eq_true h, Re.opt, Bool.true_and]
  · simp only [decide_eq_false h, Bool.false_and]
def letB : D → Bool
  | .str y => match y.cps.toList with
    | [c] => decide (97 ≤ c) && decide (c ≤ 122)
    | _ => false
  | _ => false
theorem is_name_eq {d : D} (h : dt d = true) : m_is_name [] [d] = .ok (.bl (nameB d)) [] := by
  cases d <;> first | (simp [-Re.bind, ↓bind_m, fnB, start0, endB, bors, Slot.lent, dLe, dLt, dGt, dGe, dAdd, dSub, dIx, atI, fLen, dLen, fTuple, fIsi, tyD, isB, wipeE, restE, noMut, itemsD, dSl, dt] at h; done) | (simp [-Re.bind, ↓bind_m, fnB, start0, endB, bors, Slot.lent, dLe, dLt, dGt, dGe, dAdd, dSub, dIx, atI, fLen, dLen, fTuple, fIsi, tyD, isB, wipeE, restE, noMut, itemsD, dSl, m_is_name, nameB]; done) | skip
  rename_i z
  by_cases a : 1 ≤ z.length
  · by_cases b : z.length ≤ 8
    · have e := lcL_map (t := tName 1) (c := bYes) (e := eChain dLe dLe (eC (.str "a")) (eV 1) (eC (.str "z"))) (vs := [1]) (ρ := [.dat (.str z), .no])
        (f := fun d => .bl (letB d)) (z.cps.toList.map fun c => .str ⟨#[c]⟩) fun d hd => by
          simp only [List.mem_map] at hd
          obtain ⟨c, _, rfl⟩ := hd
          exact ⟨[.dat (.str z), .dat (.str ⟨#[c]⟩)], [.dat (.str z), .dat (.str ⟨#[c]⟩)], [.dat (.str z), .dat (.str ⟨#[c]⟩)], rfl, rfl, letter_eq c, rfl⟩
      have bg : z.cps.size ≤ 1000000 := by have e0 : z.cps.size = z.length := rfl; omega
      have a' : (1 : Int) ≤ z.length := by omega
      have b' : (z.length : Int) ≤ 8 := by omega
      have e2 := fAll_map letB (z.cps.toList.map fun c => .str ⟨#[c]⟩)
      have e3 : (z.cps.toList.map fun c => D.str ⟨#[c]⟩).all letB = z.cps.toList.all (fun c => decide (97 ≤ c) && decide (c ≤ 122)) := by
        rw [List.all_map]; rfl
      rw [e3] at e2
      simp [-Re.bind, ↓bind_m, fnB, start0, endB, bors, Slot.lent, dLe, dLt, dGt, dGe, dAdd, dSub, dIx, atI, fLen, dLen, fTuple, fIsi, tyD, isB, wipeE, restE, noMut, itemsD, dSl, -Array.toList_map, -List.map_map, m_is_name, nameB, a, b, a', b', bg, e, e2]
    · have a' : (1 : Int) ≤ z.length := by omega
      have b' : ¬ (z.length : Int) ≤ 8 := by omega
      simp [-Re.bind, ↓bind_m, fnB, start0, endB, bors, Slot.lent, dLe, dLt, dGt, dGe, dAdd, dSub, dIx, atI, fLen, dLen, fTuple, fIsi, tyD, isB, wipeE, restE, noMut, itemsD, dSl, m_is_name, nameB, a, b, a', b']
  · have a' : ¬ (1 : Int) ≤ z.length := by omega
    simp [-Re.bind, ↓bind_m, fnB, start0, endB, bors, Slot.lent, dLe, dLt, dGt, dGe, dAdd, dSub, dIx, atI, fLen, dLen, fTuple, fIsi, tyD, isB, wipeE, restE, noMut, itemsD, dSl, m_is_name, nameB, a, a']
end Dw


set_option Elab.async false
set_option linter.all false
set_option maxRecDepth 100000
set_option maxHeartbeats 4000000
namespace Dw
open PySem PySem.Spec PyProof.Rows L2 Gd Dx
def sectB : D → Bool
  | .tup [b, e, l] => isW b && isW e && nameB l
  | _ => false
theorem len3 {xs : List D} (h : ¬ ∃ a b c, xs = [a, b, c]) : xs.length ≠ 3 := fun e => by
  match xs, e with
  | [a, b, c], _ => exact h ⟨a, b, c, rfl⟩
theorem ne_len3 {xs : List D} (h : xs.length ≠ 3) : PyData.eqv (pd (.int (xs.length : Int))) (pd (.int 3)) = false := by
  have : (xs.length : Int) ≠ 3 := by omega
  simp [-Re.bind, ↓bind_m, fnB, start0, endB, bors, Slot.lent, dLt, dGt, dGe, dAdd, dSub, dIx, atI, fLen, dLen, fTuple, fIsi, tyD, isB, wipeE, restE, noMut, itemsD, dSl, pd, PyData.eqv, this]
theorem pl_int (n : Nat) (i : Int) : pl (n + 1) (.int i) = true := rfl
theorem dNe_int (i j : Int) : dNe (.int i) (.int j) = some (.bl (!decide (i = j))) := by
  unfold dNe
  rw [if_pos ⟨rfl, rfl⟩]
  by_cases h : i = j <;> simp [-Re.bind, ↓bind_m, fnB, start0, endB, bors, Slot.lent, dLt, dGt, dGe, dAdd, dSub, dIx, atI, fLen, dLen, fTuple, fIsi, tyD, isB, wipeE, restE, noMut, itemsD, dSl, pd, PyData.eqv, h]
theorem dEq_int (i j : Int) : dEq (.int i) (.int j) = some (.bl (decide (i = j))) := by
  unfold dEq
  rw [if_pos ⟨rfl, rfl⟩]
  by_cases h : i = j <;> simp [-Re.bind, ↓bind_m, fnB, start0, endB, bors, Slot.lent, dLt, dGt, dGe, dAdd, dSub, dIx, atI, fLen, dLen, fTuple, fIsi, tyD, isB, wipeE, restE, noMut, itemsD, dSl, pd, PyData.eqv, h]
theorem is_section_eq {d : D} (h : dt d = true) : m__is_section [] [d] = .ok (.bl (sectB d)) [] := by
  cases d <;> first | (simp [-Re.bind, ↓bind_m, fnB, start0, endB, bors, Slot.lent, dLt, dGt, dGe, dAdd, dSub, dIx, atI, fLen, dLen, fTuple, fIsi, tyD, isB, wipeE, restE, noMut, itemsD, dSl, dt] at h; done) | (simp [-Re.bind, ↓bind_m, fnB, start0, endB, bors, Slot.lent, dLt, dGt, dGe, dAdd, dSub, dIx, atI, fLen, dLen, fTuple, fIsi, tyD, isB, wipeE, restE, noMut, itemsD, dSl, m__is_section, sectB]; done) | skip
  rename_i xs
  by_cases k : ∃ a b c, xs = [a, b, c]
  · obtain ⟨a, b, c, rfl⟩ := k
    simp only [dt, dts, Bool.and_eq_true] at h
    cases h1 : isW a <;> cases h2 : isW b <;> simp [-Re.bind, ↓bind_m, fnB, start0, endB, bors, Slot.lent, dLt, dGt, dGe, dAdd, dSub, dIx, atI, fLen, dLen, fTuple, fIsi, tyD, isB, wipeE, restE, noMut, itemsD, dSl, m__is_section, sectB, dNe_int, is_whole_eq h.1, is_whole_eq h.2.1, is_name_eq h.2.2.1, h1, h2]
  · have n := len3 k
    have n' : ¬ (xs.length : Int) = 3 := by omega
    have e : sectB (.tup xs) = false := by
      match xs, k with
      | [], _ => rfl
      | [a], _ => rfl
      | [a, b], _ => rfl
      | [a, b, c], k => exact absurd ⟨a, b, c, rfl⟩ k
      | a :: b :: c :: d :: r, _ => rfl
    simp [-Re.bind, ↓bind_m, fnB, start0, endB, bors, Slot.lent, dLt, dGt, dGe, dAdd, dSub, dIx, atI, fLen, dLen, fTuple, fIsi, tyD, isB, wipeE, restE, noMut, itemsD, dSl, m__is_section, e, dNe_int, n']
def chainB (hi : Int) : Int → List D → Bool
  | _, [] => true
  | free, .tup [.int b, .int e, _] :: r => decide (free ≤ b) && decide (b < e) && decide (e < hi) && chainB hi e r
  | _, _ => false
theorem isW_inv {d : D} (h : isW d = true) : ∃ i, d = .int i := by
  cases d <;> first | exact ⟨_, rfl⟩ | cases h
theorem sect_inv {d : D} (h : sectB d = true) : ∃ b e l, d = .tup [.int b, .int e, l] ∧ nameB l = true := by
  cases d <;> try (cases h; done)
  rename_i xs
  match xs, h with
  | [b, e, l], h =>
    simp only [sectB, Bool.and_eq_true] at h
    obtain ⟨b, rfl⟩ := isW_inv h.1.1
    obtain ⟨e, rfl⟩ := isW_inv h.1.2
    exact ⟨b, e, l, rfl, h.2⟩
abbrev secBody : D → SV := bodyD (tTup 3 (tCons (tName 3) (tCons (tName 4) (tCons (tName 5) tNil)))) (sSeq (sIf (bNot (bOf (eChain3 dLe dLt dLt (eV 2) (eV 3) (eV 4) (eV 1)))) (sRet (eC (.bl false))) sNil)
  (sAsg (eV 4) (tName 2)))
theorem secs_loop {val : D} {L : Int} : ∀ (xs : List D) (free : Int) (s3 s4 s5 : Slot), ((s3 = .no ∧ s4 = .no ∧ s5 = .no) ∨ ∃ a b c, s3 = .dat a ∧ s4 = .dat b ∧ s5 = .dat c) → xs.all sectB = true →
    ∃ ρ', forD secBody xs [.dat val, .dat (.int L), .dat (.int free), s3, s4, s5, .no] = if chainB L free xs = true then .ok .nx ρ' else .ok (.rt (.bl false)) ρ'
  | [], free, s3, s4, s5, _, _ => ⟨_, rfl⟩
  | x :: r, free, s3, s4, s5, hs, hx => by
    simp only [List.all_cons, Bool.and_eq_true] at hx
    obtain ⟨b, e, l, rfl, _⟩ := sect_inv hx.1
    have st : secBody (.tup [.int b, .int e, l]) [.dat val, .dat (.int L), .dat (.int free), s3, s4, s5, .no] =
        if (decide (free ≤ b) && decide (b < e) && decide (e < L)) = true then .ok .nx [.dat val, .dat (.int L), .dat (.int e), .dat (.int b), .dat (.int e), .dat l, .no]
        else .ok (.rt (.bl false)) [.dat val, .dat (.int L), .dat (.int free), .dat (.int b), .dat (.int e), .dat l, .no] := by
      by_cases a1 : free ≤ b <;> by_cases a2 : b < e <;> by_cases a3 : e < L <;> rcases hs with ⟨rfl, rfl, rfl⟩ | ⟨_, _, _, rfl, rfl, rfl⟩ <;> simp [-Re.bind, ↓bind_m, fnB, start0, endB, bors, Slot.lent, dLt, dGt, dGe, dAdd, dSub, dIx, atI, fLen, dLen, fTuple, fIsi, tyD, isB, wipeE, restE, noMut, itemsD, dSl, a1, a2, a3, dLe]
    obtain ⟨ρ', ih⟩ := secs_loop (val := val) (L := L) r e (.dat (.int b)) (.dat (.int e)) (.dat l) (.inr ⟨_, _, _, rfl, rfl, rfl⟩) hx.2
    by_cases k : (decide (free ≤ b) && decide (b < e) && decide (e < L)) = true
    · refine ⟨ρ', ?_⟩
      rw [if_pos k] at st
      simp only [forD, st, ih, chainB, k, Bool.true_and]
    · refine ⟨[.dat val, .dat (.int L), .dat (.int free), .dat (.int b), .dat (.int e), .dat l, .no], ?_⟩
      rw [if_neg k] at st
      have k2 : (decide (free ≤ b) && decide (b < e) && decide (e < L)) = false := by simpa [-Re.bind, ↓bind_m, fnB, start0, endB, bors, Slot.lent, dLt, dGt, dGe, dAdd, dSub, dIx, atI, fLen, dLen, fTuple, fIsi, tyD, isB, wipeE, restE, noMut, itemsD, dSl] using k
      simp only [forD, st, chainB, k2, Bool.false_and, Bool.false_eq_true, if_false]
def sectsB (L : Int) : D → Bool
  | .tup xs => decide (xs.length ≤ 8) && xs.all sectB && chainB L 0 xs
  | _ => false
theorem sect_lc {val : D} {s1 s2 s3 s4 s5 : Slot} {xs : List D} (h : dts xs = true) : lcL (tName 6) bYes (eCall m__is_section (aCons (eV 6) aNil)) [6] xs [.dat val, s1, s2, s3, s4, s5, .no] = .ok (xs.map fun d => .bl (sectB d)) [.dat val, s1, s2, s3, s4, s5, .no] :=
  lcL_map xs fun d hd => ⟨[.dat val, s1, s2, s3, s4, s5, .dat d], [.dat val, s1, s2, s3, s4, s5, .dat d], [.dat val, s1, s2, s3, s4, s5, .dat d], rfl, rfl, by simp [-Re.bind, ↓bind_m, fnB, start0, endB, bors, Slot.lent, dLt, dGt, dGe, dAdd, dSub, dIx, atI, fLen, dLen, fTuple, fIsi, tyD, isB, wipeE, restE, noMut, itemsD, dSl, is_section_eq (dts_mem h d hd)], rfl⟩
theorem are_sections_eq {d : D} (h : dt d = true) (L : Int) : m__are_sections [] [d, .int L] = .ok (.bl (sectsB L d)) [] := by
  cases d <;> first | (simp [-Re.bind, ↓bind_m, fnB, start0, endB, bors, Slot.lent, dLt, dGt, dGe, dAdd, dSub, dIx, atI, fLen, dLen, fTuple, fIsi, tyD, isB, wipeE, restE, noMut, itemsD, dSl, dt] at h; done) | (simp [-Re.bind, ↓bind_m, fnB, start0, endB, bors, Slot.lent, dLt, dGt, dGe, dAdd, dSub, dIx, atI, fLen, dLen, fTuple, fIsi, tyD, isB, wipeE, restE, noMut, itemsD, dSl, m__are_sections, sectsB]; done) | skip
  rename_i xs
  simp only [dt] at h
  by_cases k : xs.length ≤ 8
  · have bg : xs.length ≤ 1000000 := by omega
    have k' : ¬ (8 : Int) < xs.length := by omega
    have e := sect_lc (val := .tup xs) (s1 := .dat (.int L)) (s2 := .no) (s3 := .no) (s4 := .no) (s5 := .no) h
    have e2 := fAll_map sectB xs
    cases ha : xs.all sectB with
    | false =>
      rw [ha] at e2
      simp [-Re.bind, ↓bind_m, fnB, start0, endB, bors, Slot.lent, dLt, dGt, dGe, dAdd, dSub, dIx, atI, fLen, dLen, fTuple, fIsi, tyD, isB, wipeE, restE, noMut, itemsD, dSl, m__are_sections, sectsB, k, k', bg, e, e2, ha]
    | true =>
      rw [ha] at e2
      obtain ⟨ρ', st⟩ := secs_loop (val := .tup xs) (L := L) xs 0 .no .no .no (.inl ⟨rfl, rfl, rfl⟩) ha
      cases hc : chainB L 0 xs <;> simp only [hc, Bool.false_eq_true, if_false, if_true] at st <;> simp [-Re.bind, ↓bind_m, fnB, start0, endB, bors, Slot.lent, dLt, dGt, dGe, dAdd, dSub, dIx, atI, fLen, dLen, fTuple, fIsi, tyD, isB, wipeE, restE, noMut, itemsD, dSl, m__are_sections, sectsB, k, k', bg, e, e2, ha, hc, st]
  · have k' : (8 : Int) < xs.length := by omega
    simp [-Re.bind, ↓bind_m, fnB, start0, endB, bors, Slot.lent, dLt, dGt, dGe, dAdd, dSub, dIx, atI, fLen, dLen, fTuple, fIsi, tyD, isB, wipeE, restE, noMut, itemsD, dSl, m__are_sections, sectsB, k, k']
end Dw


set_option Elab.async false
set_option linter.all false
set_option maxRecDepth 100000
set_option maxHeartbeats 4000000
namespace Dw
open PySem PySem.Spec PyProof.Rows L2 Gd Dx
def numsB : List D → Bool
  | [a, b, c, d] => betwB 1 100 a && betwB 1 1000 b && betwB 1 20000 c && betwB 0 1000000 d
  | _ => false
theorem are_numbers_eq {a b c d : D} (h : dts [a, b, c, d] = true) : m__are_numbers [] [.tup [a, b, c, d]] = .ok (.bl (numsB [a, b, c, d])) [] := by
  simp only [dts, Bool.and_eq_true] at h
  obtain ⟨h1, h2, h3, h4, _⟩ := h
  cases k1 : betwB 1 100 a <;> cases k2 : betwB 1 1000 b <;> cases k3 : betwB 1 20000 c <;> cases k4 : betwB 0 1000000 d <;>
    simp [-Re.bind, ↓bind_m, ixN, fnB, start0, endB, bors, Slot.lent, dLt, dGt, dGe, dAdd, dSub, dIx, atI, fLen, dLen, fTuple, fIsi, tyD, isB, wipeE, restE, noMut, itemsD, dSl, m__are_numbers, trioD, forD, is_between_eq h1, is_between_eq h2, is_between_eq h3, is_between_eq h4, k1, k2, k3, k4, numsB]
def taskB : D → Bool
  | .tup [n, .int L, g, d, r, s] => nameB n && numsB [.int L, g, d, r] && sectsB L s
  | _ => false
theorem is_task_eq {d : D} (h : dt d = true) : m_is_task [] [d] = .ok (.bl (taskB d)) [] := by
  cases d <;> first | (simp [-Re.bind, ↓bind_m, ixN, fnB, start0, endB, bors, Slot.lent, dLt, dGt, dGe, dAdd, dSub, dIx, atI, fLen, dLen, fTuple, fIsi, tyD, isB, wipeE, restE, noMut, itemsD, dSl, dt] at h; done) | (simp [-Re.bind, ↓bind_m, ixN, fnB, start0, endB, bors, Slot.lent, dLt, dGt, dGe, dAdd, dSub, dIx, atI, fLen, dLen, fTuple, fIsi, tyD, isB, wipeE, restE, noMut, itemsD, dSl, m_is_task, taskB]; done) | skip
  rename_i xs
  by_cases k : ∃ a b c d e f, xs = [a, b, c, d, e, f]
  · obtain ⟨n, L, g, dl, r, s, rfl⟩ := k
    simp only [dt, dts, Bool.and_eq_true] at h
    obtain ⟨hn, hL, hg, hd, hr, hs, _⟩ := h
    have e1 := is_name_eq hn
    have e2 := are_numbers_eq (a := L) (b := g) (c := dl) (d := r) (by simp [-Re.bind, ↓bind_m, ixN, fnB, start0, endB, bors, Slot.lent, dLt, dGt, dGe, dAdd, dSub, dIx, atI, fLen, dLen, fTuple, fIsi, tyD, isB, wipeE, restE, noMut, itemsD, dSl, dts, hL, hg, hd, hr])
    have ct : cutG [n, L, g, dl, r, s] (some 1) (some 5) = [L, g, dl, r] := rfl
    cases k1 : nameB n with
    | false =>
      have : taskB (.tup [n, L, g, dl, r, s]) = false := by cases L <;> simp [-Re.bind, ↓bind_m, ixN, fnB, start0, endB, bors, Slot.lent, dLt, dGt, dGe, dAdd, dSub, dIx, atI, fLen, dLen, fTuple, fIsi, tyD, isB, wipeE, restE, noMut, itemsD, dSl, taskB, k1]
      simp [-Re.bind, ↓bind_m, ixN, fnB, start0, endB, bors, Slot.lent, dLt, dGt, dGe, dAdd, dSub, dIx, atI, fLen, dLen, fTuple, fIsi, tyD, isB, wipeE, restE, noMut, itemsD, dSl, m_is_task, dNe_int, e1, k1, this]
    | true =>
      cases k2 : numsB [L, g, dl, r] with
      | false =>
        have : taskB (.tup [n, L, g, dl, r, s]) = false := by cases L <;> simp [-Re.bind, ↓bind_m, ixN, fnB, start0, endB, bors, Slot.lent, dLt, dGt, dGe, dAdd, dSub, dIx, atI, fLen, dLen, fTuple, fIsi, tyD, isB, wipeE, restE, noMut, itemsD, dSl, taskB, k1, k2]
        simp [-Re.bind, ↓bind_m, ixN, fnB, start0, endB, bors, Slot.lent, dLt, dGt, dGe, dAdd, dSub, dIx, atI, fLen, dLen, fTuple, fIsi, tyD, isB, wipeE, restE, noMut, itemsD, dSl, m_is_task, dNe_int, e1, k1, e2, k2, this, ct]
      | true =>
        have : ∃ i, L = .int i := by
          cases L <;> first | exact ⟨_, rfl⟩ | simp [-Re.bind, ↓bind_m, ixN, fnB, start0, endB, bors, Slot.lent, dLt, dGt, dGe, dAdd, dSub, dIx, atI, fLen, dLen, fTuple, fIsi, tyD, isB, wipeE, restE, noMut, itemsD, dSl, numsB, betwB] at k2
        obtain ⟨i, rfl⟩ := this
        have e3 := are_sections_eq hs i
        simp [-Re.bind, ↓bind_m, ixN, fnB, start0, endB, bors, Slot.lent, dLt, dGt, dGe, dAdd, dSub, dIx, atI, fLen, dLen, fTuple, fIsi, tyD, isB, wipeE, restE, noMut, itemsD, dSl, m_is_task, dNe_int, e1, k1, e2, k2, ct, e3, taskB]
  · have n : xs.length ≠ 6 := fun e => by
      match xs, e with
      | [a, b, c, d, e, f], _ => exact k ⟨a, b, c, d, e, f, rfl⟩
    have n' : ¬ (xs.length : Int) = 6 := by omega
    have e : taskB (.tup xs) = false := by
      cases hb : taskB (.tup xs) with
      | false => rfl
      | true =>
        unfold taskB at hb
        split at hb
        · rename_i heq
          cases heq
          exact absurd rfl n
        · cases hb
    simp [-Re.bind, ↓bind_m, ixN, fnB, start0, endB, bors, Slot.lent, dLt, dGt, dGe, dAdd, dSub, dIx, atI, fLen, dLen, fTuple, fIsi, tyD, isB, wipeE, restE, noMut, itemsD, dSl, m_is_task, e, dNe_int, n']
theorem check_task_eq {d : D} (h : dt d = true) : m_check_task [] [d] = if taskB d = true then .ok .non [] else .er ⟨"InvalidTask", []⟩ [] := by
  cases k : taskB d <;> simp [-Re.bind, ↓bind_m, ixN, fnB, start0, endB, bors, Slot.lent, dLt, dGt, dGe, dAdd, dSub, dIx, atI, fLen, dLen, fTuple, fIsi, tyD, isB, wipeE, restE, noMut, itemsD, dSl, m_check_task, is_task_eq h, k]
end Dw


set_option Elab.async false
set_option linter.all false
set_option maxRecDepth 100000
set_option maxHeartbeats 4000000
namespace Dw
open PySem PySem.Spec PyProof.Rows L2 Gd Dx
theorem dts_of : ∀ {xs : List D}, (∀ d ∈ xs, dt d = true) → dts xs = true
  | [], _ => rfl
  | x :: r, h => by simp [-Re.bind, ↓bind_m, big, ixN, fnB, start0, endB, bors, Slot.lent, dLt, dGt, dGe, dAdd, dSub, dIx, atI, fLen, dLen, fTuple, fIsi, tyD, isB, wipeE, restE, noMut, itemsD, dSl, dts, h x List.mem_cons_self, dts_of fun d hd => h d (List.mem_cons_of_mem _ hd)]
theorem dts_perm {xs ys : List D} (p : xs.Perm ys) (h : dts ys = true) : dts xs = true := dts_of fun d hd => dts_mem h d (p.mem_iff.mp hd)
theorem nameB_inv {d : D} (h : nameB d = true) : ∃ z, d = .str z := by
  cases d <;> first | exact ⟨_, rfl⟩ | cases h
theorem sect_key {d : D} (h : sectB d = true) : isTupK [true, true, false] d = true := by
  obtain ⟨b, e, l, rfl, hl⟩ := sect_inv h
  obtain ⟨z, rfl⟩ := nameB_inv hl
  rfl
theorem okTup_sect {x : D} {xs : List D} (h : (x :: xs).all sectB = true) : okTup (x :: xs) = true := by
  have hx : sectB x = true := by simp only [List.all_cons, Bool.and_eq_true] at h; exact h.1
  obtain ⟨b, e, l, rfl, hl⟩ := sect_inv hx
  obtain ⟨z, rfl⟩ := nameB_inv hl
  have : (D.tup [.int b, .int e, .str z] :: xs).all (isTupK [true, true, false]) = true := by
    rw [List.all_eq_true] at h ⊢
    exact fun d hd => sect_key (h d hd)
  have k : okTup (D.tup [.int b, .int e, .str z] :: xs) = ((decide (([true, true, false] : List Bool).head? = some true)) && (D.tup [.int b, .int e, .str z] :: xs).all (isTupK [true, true, false])) := rfl
  rw [k, this]; decide
theorem lSorted_sect {xs : List D} (h : xs.all sectB = true) : lSorted [.tup xs] = some (isort xs) := by
  cases xs with
  | nil => rfl
  | cons x r => show (if okTup (x :: r) = true then _ else _) = _; rw [if_pos (okTup_sect h)]
def orD (d g : D) : D := if Dx.isNon d = true then g else d
def builtD (n L g s dl r : D) : FR := match s with
  | .tup xs => if xs.all sectB = true ∧ taskB (.tup [n, L, g, orD dl g, r, .tup (isort xs)]) = true then .ok (.tup [n, L, g, orD dl g, r, .tup (isort xs)]) [] else .er ⟨"InvalidTask", []⟩ []
  | _ => .er ⟨"InvalidTask", []⟩ []
theorem sect_lc2 {a0 a1 a2 a4 a5 : Slot} {val : D} {xs : List D} (h : dts xs = true) : lcL (tName 7) bYes (eCall m__is_section (aCons (eV 7) aNil)) [7] xs [a0, a1, a2, .dat val, a4, a5, .no, .no] = .ok (xs.map fun d => .bl (sectB d)) [a0, a1, a2, .dat val, a4, a5, .no, .no] :=
  lcL_map xs fun d hd => ⟨[a0, a1, a2, .dat val, a4, a5, .no, .dat d], [a0, a1, a2, .dat val, a4, a5, .no, .dat d], [a0, a1, a2, .dat val, a4, a5, .no, .dat d], rfl, rfl, by simp [-Re.bind, ↓bind_m, big, ixN, fnB, start0, endB, bors, Slot.lent, dLt, dGt, dGe, dAdd, dSub, dIx, atI, fLen, dLen, fTuple, fIsi, tyD, isB, wipeE, restE, noMut, itemsD, dSl, is_section_eq (dts_mem h d hd)], rfl⟩
theorem dIs_non (d : D) : dIs false d .non = some (.bl (Dx.isNon d)) := by cases d <;> simp [-Re.bind, ↓bind_m, big, ixN, fnB, start0, endB, bors, Slot.lent, dLt, dGt, dGe, dAdd, dSub, dIx, atI, fLen, dLen, fTuple, fIsi, tyD, isB, wipeE, restE, noMut, itemsD, dSl, dIs, Dx.isNon]
end Dw


set_option Elab.async false
set_option linter.all false
set_option maxRecDepth 100000
set_option maxHeartbeats 4000000
/-! drawn names, sections -/
namespace Dw
open PySem PySem.Spec PyProof.Rows L2 Gd Dx
abbrev nmS : List Str := ["a", "aa", "b", "ba", "car", "d", "gap", "k", "late", "map", "none", "row", "task", "x", "y", "zzzzzzzz"]
theorem cut_to {xs : List D} {k : Int} (h : 0 ≤ k) : cutG xs none (some k) = xs.take k.toNat := by
  have e : HT.sIx xs.length xs.length (some k) = min k.toNat xs.length := by
    show (if k < 0 then _ else min k.toNat xs.length) = _
    rw [if_neg (by omega)]
  unfold cutG
  rw [e, HT.sIx_none, List.drop_zero, Nat.sub_zero]
  rw [List.take_eq_take_iff]
  omega
def unS : D → Str
  | .str x => x
  | _ => ""
theorem perm_map {ys : List D} {l : List Str} (p : ys.Perm (l.map D.str)) : ∃ m : List Str, ys = m.map D.str ∧ m.Perm l := by
  refine ⟨ys.map unS, ?_, ?_⟩
  · rw [List.map_map]
    have : ∀ y ∈ ys, (D.str ∘ unS) y = y := fun y hy => by
      have := p.mem_iff.mp hy
      simp only [List.mem_map] at this
      obtain ⟨x, _, rfl⟩ := this
      rfl
    rw [List.map_congr_left (g := id) this, List.map_id]
  · have := p.map unS
    rw [List.map_map] at this
    simpa [-Re.bind, ↓bind_m, big, fnB, start0, endB, bors, Slot.lent, dLt, dGt, dGe, dAdd, dSub, dMod, dDiv, fInt, dIx, atI, fLen, dLen, fTuple, wipeE, restE, noMut, itemsD, dSl, ixN, Function.comp_def, unS] using this
theorem names_ok {c : Cell} (h : StOk c) {k : Int} (h0 : 0 ≤ k) (h1 : k ≤ 16) : ∃ (m : List Str) (c' : Cell), m__law_names [c] [.int k] = .ok (.lst (m.map D.str)) [c'] ∧ m.length = k.toNat ∧ m.Nodup ∧ (∀ x ∈ m, x ∈ nmS) ∧ StOk c' := by
  obtain ⟨ys, c', e, p, s⟩ := mixed_ok h (xs := nmS.map D.str) (by decide)
  obtain ⟨m, rfl, q⟩ := perm_map p
  have e' : m__law_mixed [c] [D.lst [.str "a", .str "aa", .str "b", .str "ba", .str "car", .str "d", .str "gap", .str "k", .str "late", .str "map", .str "none", .str "row", .str "task", .str "x", .str "y", .str "zzzzzzzz"]] = .ok (.lst (m.map D.str)) [c'] := e
  refine ⟨m.take k.toNat, c', ?_, ?_, ?_, ?_, s⟩
  · simp [-Re.bind, ↓bind_m, big, fnB, start0, endB, bors, Slot.lent, dLt, dGt, dGe, dAdd, dSub, dMod, dDiv, fInt, dIx, atI, fLen, dLen, fTuple, wipeE, restE, noMut, itemsD, dSl, ixN, m__law_names, e', cut_to h0, List.map_take]
  · rw [List.length_take, q.length_eq]
    show min _ 16 = _
    omega
  · exact (q.nodup_iff.mpr (by decide +kernel)).sublist (List.take_sublist _ _)
  · exact fun x hx => q.mem_iff.mp (List.mem_of_mem_take hx)

/-! ### sections -/
def lastE : Int → List D → Int
  | free, [] => free
  | _, .tup [_, .int e, _] :: r => lastE e r
  | free, _ => free
/-- a drawn section -/
def GoodX (d : D) : Prop := ∃ b e l, d = .tup [.int b, .int e, .str l] ∧ l ∈ nmS
theorem chain_app {hi b e : Int} {l : D} : ∀ (xs : List D) (free : Int), (∀ x ∈ xs, GoodX x) → chainB hi free xs = true → lastE free xs ≤ b → b < e → e < hi →
    chainB hi free (xs ++ [.tup [.int b, .int e, l]]) = true ∧ lastE free (xs ++ [.tup [.int b, .int e, l]]) = e
  | [], free, _, _, h1, h2, h3 => by
    simp only [lastE] at h1
    simp [-Re.bind, ↓bind_m, big, fnB, start0, endB, bors, Slot.lent, dLt, dGt, dGe, dAdd, dSub, dMod, dDiv, fInt, dIx, atI, fLen, dLen, fTuple, wipeE, restE, noMut, itemsD, dSl, ixN, chainB, lastE, h1, h2, h3]
  | x :: r, free, hx, hc, h1, h2, h3 => by
    obtain ⟨b', e', l', rfl, _⟩ := hx x List.mem_cons_self
    simp only [chainB, Bool.and_eq_true] at hc
    simp only [lastE] at h1
    obtain ⟨k1, k2⟩ := chain_app (l := l) r e' (fun y hy => hx y (List.mem_cons_of_mem _ hy)) hc.2 h1 h2 h3
    exact ⟨by simp only [List.cons_append, chainB, hc.1, k1, Bool.and_self], by simp only [List.cons_append, lastE, k2]⟩
abbrev secsBody : D → SV := bodyD (tName 3) (sSeq (sAsg (eOp dAdd (eV 5) (eCallB m__law_draw 0 (aCons (eC (.int 3)) aNil))) (tName 5))
  (sSeq (sAsg (eOp dAdd (eOp dAdd (eV 5) (eC (.int 1))) (eCallB m__law_draw 0 (aCons (eC (.int 4)) aNil))) (tName 6))
  (sIf (bOf (eOp dLt (eV 6) (eV 1))) (sSeq (sApp 4 (eTup (aCons (eV 5) (aCons (eV 6) (aCons (eCallB m__law_pick 0 (aCons (eV 2) aNil)) aNil)))))
  (sAsg (eV 6) (tName 5))) sNil)))
theorem secs_draw {hi : Int} {m : List Str} (hm : m ≠ []) (hl : m.length ≤ big) (hn : ∀ x ∈ m, x ∈ nmS) : ∀ (ds : List D) (c : Cell) (found : List D) (beg : Int) (s3 s6 : Slot), StOk c →
    ((s3 = .no ∧ s6 = .no) ∨ ∃ a b, s3 = .dat a ∧ s6 = .dat b) → (∀ x ∈ found, GoodX x) → chainB hi 0 found = true → lastE 0 found ≤ beg → found.length + ds.length ≤ 3 →
    ∃ c' found' beg' s3' s6', forD secsBody ds [.bor c, .dat (.int hi), .dat (.lst (m.map D.str)), s3, .own (.lst found), .dat (.int beg), s6] = .ok .nx [.bor c', .dat (.int hi), .dat (.lst (m.map D.str)), s3', .own (.lst found'), .dat (.int beg'), s6'] ∧
      StOk c' ∧ (∀ x ∈ found', GoodX x) ∧ chainB hi 0 found' = true ∧ found'.length ≤ 3
  | [], c, found, beg, s3, s6, h, _, hg, hc, _, hlen => ⟨c, found, beg, s3, s6, rfl, h, hg, hc, by simpa [-Re.bind, ↓bind_m, big, fnB, start0, endB, bors, Slot.lent, dLt, dGt, dGe, dAdd, dSub, dMod, dDiv, fInt, dIx, atI, fLen, dLen, fTuple, wipeE, restE, noMut, itemsD, dSl, ixN] using hlen⟩
  | d :: r, c, found, beg, s3, s6, h, hs, hg, hc, hb, hlen => by
    obtain ⟨k1, c1, e1, p1, q1, w1⟩ := draw_ok h (n := 3) (by decide) (by decide)
    obtain ⟨k2, c2, e2, p2, q2, w2⟩ := draw_ok w1 (n := 4) (by decide) (by decide)
    simp only [List.length_cons] at hlen
    by_cases lt : beg + k1 + 1 + k2 < hi
    · obtain ⟨x, c3, e3, hx, w3⟩ := pick_ok w2 (xs := m.map D.str) (by simpa [-Re.bind, ↓bind_m, big, fnB, start0, endB, bors, Slot.lent, dLt, dGt, dGe, dAdd, dSub, dMod, dDiv, fInt, dIx, atI, fLen, dLen, fTuple, wipeE, restE, noMut, itemsD, dSl, ixN] using hm) (by simpa [-Re.bind, ↓bind_m, big, fnB, start0, endB, bors, Slot.lent, dLt, dGt, dGe, dAdd, dSub, dMod, dDiv, fInt, dIx, atI, fLen, dLen, fTuple, wipeE, restE, noMut, itemsD, dSl, ixN] using hl)
      simp only [List.mem_map] at hx
      obtain ⟨l, hl', rfl⟩ := hx
      obtain ⟨a1, a2⟩ := chain_app (hi := hi) (b := beg + k1) (e := beg + k1 + 1 + k2) (l := .str l) found 0 hg hc (by omega) (by omega) lt
      have fl : found.length < 1000000 := by omega
      have st : secsBody d [.bor c, .dat (.int hi), .dat (.lst (m.map D.str)), s3, .own (.lst found), .dat (.int beg), s6] =
          .ok .nx [.bor c3, .dat (.int hi), .dat (.lst (m.map D.str)), .dat d, .own (.lst (found ++ [.tup [.int (beg + k1), .int (beg + k1 + 1 + k2), .str l]])), .dat (.int (beg + k1 + 1 + k2)), .dat (.int (beg + k1 + 1 + k2))] := by
        rcases hs with ⟨rfl, rfl⟩ | ⟨_, _, rfl, rfl⟩ <;> simp [-Re.bind, ↓bind_m, big, fnB, start0, endB, bors, Slot.lent, dLt, dGt, dGe, dAdd, dSub, dMod, dDiv, fInt, dIx, atI, fLen, dLen, fTuple, wipeE, restE, noMut, itemsD, dSl, ixN, e1, e2, e3, lt, fl]
      obtain ⟨c', found', beg', s3', s6', g1, g2⟩ := secs_draw (hi := hi) hm hl hn r c3 (found ++ [.tup [.int (beg + k1), .int (beg + k1 + 1 + k2), .str l]]) (beg + k1 + 1 + k2) (.dat d) (.dat (.int (beg + k1 + 1 + k2))) w3 (.inr ⟨_, _, rfl, rfl⟩)
        (fun y hy => by
          rcases List.mem_append.mp hy with hy | hy
          · exact hg y hy
          · simp only [List.mem_singleton] at hy
            exact ⟨_, _, _, hy, hn l hl'⟩) a1 (by omega) (by simp only [List.length_append, List.length_cons, List.length_nil]; omega)
      exact ⟨c', found', beg', s3', s6', by simp only [forD, st, g1], g2⟩
    · have st : secsBody d [.bor c, .dat (.int hi), .dat (.lst (m.map D.str)), s3, .own (.lst found), .dat (.int beg), s6] =
          .ok .nx [.bor c2, .dat (.int hi), .dat (.lst (m.map D.str)), .dat d, .own (.lst found), .dat (.int (beg + k1)), .dat (.int (beg + k1 + 1 + k2))] := by
        rcases hs with ⟨rfl, rfl⟩ | ⟨_, _, rfl, rfl⟩ <;> simp [-Re.bind, ↓bind_m, big, fnB, start0, endB, bors, Slot.lent, dLt, dGt, dGe, dAdd, dSub, dMod, dDiv, fInt, dIx, atI, fLen, dLen, fTuple, wipeE, restE, noMut, itemsD, dSl, ixN, e1, e2, lt]
      obtain ⟨c', found', beg', s3', s6', g1, g2⟩ := secs_draw (hi := hi) hm hl hn r c2 found (beg + k1) (.dat d) (.dat (.int (beg + k1 + 1 + k2))) w2 (.inr ⟨_, _, rfl, rfl⟩) hg hc (by omega) (by omega)
      exact ⟨c', found', beg', s3', s6', by simp only [forD, st, g1], g2⟩
theorem sections_ok {c : Cell} (h : StOk c) (hi : Int) {m : List Str} (hm : m ≠ []) (hl : m.length ≤ big) (hn : ∀ x ∈ m, x ∈ nmS) :
    ∃ xs c', m__law_sections [c] [.int hi, .lst (m.map D.str)] = .ok (.tup xs) [c'] ∧ StOk c' ∧ (∀ x ∈ xs, GoodX x) ∧ chainB hi 0 xs = true ∧ xs.length ≤ 3 := by
  obtain ⟨x, c1, e1, hx, w1⟩ := pick_ok h (xs := [.int 0, .int 0, .int 1, .int 1, .int 2, .int 3]) (by simp [-Re.bind, ↓bind_m, big, fnB, start0, endB, bors, Slot.lent, dLt, dGt, dGe, dAdd, dSub, dMod, dDiv, fInt, dIx, atI, fLen, dLen, fTuple, wipeE, restE, noMut, itemsD, dSl, ixN]) (by decide)
  have : ∃ k : Int, x = .int k ∧ 0 ≤ k ∧ k ≤ 3 := by
    simp only [List.mem_cons, List.not_mem_nil, or_false] at hx
    rcases hx with rfl | rfl | rfl | rfl | rfl | rfl <;> exact ⟨_, rfl, by decide, by decide⟩
  obtain ⟨k, rfl, k0, k3⟩ := this
  have ok : okR k = true := okR_of (by omega) (by omega)
  have ln : (rngD 0 k).length = k.toNat := by simp [-Re.bind, ↓bind_m, big, fnB, start0, endB, bors, Slot.lent, dLt, dGt, dGe, dAdd, dSub, dMod, dDiv, fInt, dIx, atI, fLen, dLen, fTuple, wipeE, restE, noMut, itemsD, dSl, ixN, rngD]
  obtain ⟨c', xs, beg', s3', s6', g, w, a, b, d⟩ := secs_draw (hi := hi) hm hl hn (rngD 0 k) c1 [] 0 .no .no w1 (.inl ⟨rfl, rfl⟩) (fun _ h => nomatch h) rfl (Int.le_refl _) (by rw [ln]; simp only [List.length_nil]; omega)
  refine ⟨xs, c', ?_, w, a, b, d⟩
  simp [-Re.bind, ↓bind_m, big, fnB, start0, endB, bors, Slot.lent, dLt, dGt, dGe, dAdd, dSub, dMod, dDiv, fInt, dIx, atI, fLen, dLen, fTuple, wipeE, restE, noMut, itemsD, dSl, ixN, m__law_sections, runM, Cell.plain, okSet, putS, e1, ok, g]
end Dw


set_option Elab.async false
set_option linter.all false
set_option maxRecDepth 100000
set_option maxHeartbeats 4000000
/-! drawn tasks -/
namespace Dw
open PySem PySem.Spec PyProof.Rows L2 Gd Dx
structure Ln where
  n : Str
  L : Int
  g : Int
  dl : Int
  r : Int
  xs : List D
  p : Int
def Ln.d (l : Ln) : D := .tup [.str l.n, .int l.L, .int l.g, .int l.dl, .int l.r, .tup l.xs]
structure Ln.ok (l : Ln) : Prop where
  n : l.n ∈ nmS
  L0 : 1 ≤ l.L
  L1 : l.L ≤ 9
  g0 : 1 ≤ l.g
  g1 : l.g ≤ 97
  d0 : 1 ≤ l.dl
  d1 : l.dl ≤ 300
  r0 : 0 ≤ l.r
  r1 : l.r ≤ 6
  x : ∀ x ∈ l.xs, GoodX x
  c : chainB l.L 0 l.xs = true
  l3 : l.xs.length ≤ 3
  p0 : 1 ≤ l.p
  w : 10 * l.L ≤ l.p * l.g
theorem wide_ok {h p : Int} (h0 : 1 ≤ h) (h1 : h ≤ 9) (p0 : 1 ≤ p) (p1 : p ≤ 9) : 1 ≤ (10 * h + p - 1) / p ∧ (10 * h + p - 1) / p ≤ 90 ∧ ∀ z, 0 ≤ z → 10 * h ≤ p * ((10 * h + p - 1) / p + z) := by
  have : p = 1 ∨ p = 2 ∨ p = 3 ∨ p = 4 ∨ p = 5 ∨ p = 6 ∨ p = 7 ∨ p = 8 ∨ p = 9 := by omega
  rcases this with rfl | rfl | rfl | rfl | rfl | rfl | rfl | rfl | rfl <;> refine ⟨by omega, by omega, fun z hz => by omega⟩
/-- parts of the load -/
structure Parts (ps : List Int) (n : Nat) (s : Int) : Prop where
  l : ps.length = n
  p : ∀ p ∈ ps, 1 ≤ p
  s : ps.sum = s
theorem sum_set : ∀ {ps : List Int} {i : Nat} {x : Int} (h : i < ps.length), (ps.set i x).sum = ps.sum - ps[i] + x
  | [], _, _, h => nomatch h
  | a :: r, 0, x, _ => by simp [-Re.bind, ↓bind_m, big, fnB, start0, endB, bors, Slot.lent, dLt, dGt, dGe, dAdd, dSub, dMul, dMod, dDiv, fInt, dIx, atI, fLen, dLen, fTuple, wipeE, restE, noMut, itemsD, dSl, ixN]; omega
  | a :: r, i + 1, x, h => by
    have := sum_set (ps := r) (i := i) (x := x) (by simpa [-Re.bind, ↓bind_m, big, fnB, start0, endB, bors, Slot.lent, dLt, dGt, dGe, dAdd, dSub, dMul, dMod, dDiv, fInt, dIx, atI, fLen, dLen, fTuple, wipeE, restE, noMut, itemsD, dSl, ixN] using h)
    simp [-Re.bind, ↓bind_m, big, fnB, start0, endB, bors, Slot.lent, dLt, dGt, dGe, dAdd, dSub, dMul, dMod, dDiv, fInt, dIx, atI, fLen, dLen, fTuple, wipeE, restE, noMut, itemsD, dSl, ixN, this]; omega
theorem sum_ge : ∀ {ps : List Int}, (∀ p ∈ ps, 1 ≤ p) → 0 ≤ ps.sum
  | [], _ => Int.le_refl _
  | a :: r, h => by
    have := sum_ge fun p hp => h p (List.mem_cons_of_mem a hp)
    have := h a List.mem_cons_self
    simp [-Re.bind, ↓bind_m, big, fnB, start0, endB, bors, Slot.lent, dLt, dGt, dGe, dAdd, dSub, dMul, dMod, dDiv, fInt, dIx, atI, fLen, dLen, fTuple, wipeE, restE, noMut, itemsD, dSl, ixN]; omega
theorem le_sum : ∀ {ps : List Int} {p : Int}, (∀ p ∈ ps, 1 ≤ p) → p ∈ ps → p ≤ ps.sum
  | a :: r, p, h, hp => by
    have h1 := sum_ge fun p hp => h p (List.mem_cons_of_mem a hp)
    have h2 := h a List.mem_cons_self
    rcases List.mem_cons.mp hp with rfl | hp
    · simp [-Re.bind, ↓bind_m, big, fnB, start0, endB, bors, Slot.lent, dLt, dGt, dGe, dAdd, dSub, dMul, dMod, dDiv, fInt, dIx, atI, fLen, dLen, fTuple, wipeE, restE, noMut, itemsD, dSl, ixN]; omega
    · have := le_sum (fun p hp => h p (List.mem_cons_of_mem a hp)) hp
      simp [-Re.bind, ↓bind_m, big, fnB, start0, endB, bors, Slot.lent, dLt, dGt, dGe, dAdd, dSub, dMul, dMod, dDiv, fInt, dIx, atI, fLen, dLen, fTuple, wipeE, restE, noMut, itemsD, dSl, ixN]; omega
abbrev partsBody : D → SV := bodyD (tName 3) (sSeq (sAsg (eCallB m__law_draw 0 (aCons (eV 2) aNil)) (tName 7))
  (sPut 5 (eV 7) (eOp dAdd (eIxO 5 (eV 7)) (eC (.int 1)))))
theorem parts_loop {k : D} {mu : Int} (m0 : 0 < mu) (m1 : mu ≤ 9) : ∀ (ds : List D) (c : Cell) (ps : List Int) (s : Int) (s3 s7 : Slot), StOk c → ((s3 = .no ∧ s7 = .no) ∨ ∃ a b, s3 = .dat a ∧ s7 = .dat b) → Parts ps mu.toNat s →
    ∃ c' ps' s3' s7', forD partsBody ds [.bor c, .dat k, .dat (.int mu), s3, .no, .own (.lst (ps.map D.int)), .own (.lst []), s7, .no, .no, .no, .no] =
      .ok .nx [.bor c', .dat k, .dat (.int mu), s3', .no, .own (.lst (ps'.map D.int)), .own (.lst []), s7', .no, .no, .no, .no] ∧ StOk c' ∧ (s7' = .no ∨ ∃ a, s7' = .dat a) ∧ Parts ps' mu.toNat (s + ds.length)
  | [], c, ps, s, s3, s7, h, hs, hp => ⟨c, ps, s3, s7, rfl, h, by rcases hs with ⟨_, h⟩ | ⟨_, b, _, h⟩ <;> simp [-Re.bind, ↓bind_m, big, fnB, start0, endB, bors, Slot.lent, dLt, dGt, dGe, dAdd, dSub, dMul, dMod, dDiv, fInt, dIx, atI, fLen, dLen, fTuple, wipeE, restE, noMut, itemsD, dSl, ixN, h], by simpa [-Re.bind, ↓bind_m, big, fnB, start0, endB, bors, Slot.lent, dLt, dGt, dGe, dAdd, dSub, dMul, dMod, dDiv, fInt, dIx, atI, fLen, dLen, fTuple, wipeE, restE, noMut, itemsD, dSl, ixN] using hp⟩
  | d :: r, c, ps, s, s3, s7, h, hs, hp => by
    obtain ⟨i, c1, e1, i0, i1, w1⟩ := draw_ok h m0 (by omega)
    have hi : i.toNat < ps.length := by rw [hp.l]; omega
    have hn : ¬ i < 0 := by omega
    have hil : i < ps.length := by rw [hp.l]; omega
    have st : partsBody d [.bor c, .dat k, .dat (.int mu), s3, .no, .own (.lst (ps.map D.int)), .own (.lst []), s7, .no, .no, .no, .no] =
        .ok .nx [.bor c1, .dat k, .dat (.int mu), .dat d, .no, .own (.lst ((ps.set i.toNat (ps[i.toNat] + 1)).map D.int)), .own (.lst []), .dat (.int i), .no, .no, .no, .no] := by
      rcases hs with ⟨rfl, rfl⟩ | ⟨_, _, rfl, rfl⟩ <;> simp [-Re.bind, ↓bind_m, big, fnB, start0, endB, bors, Slot.lent, dLt, dGt, dGe, dAdd, dSub, dMul, dMod, dDiv, fInt, dIx, atI, fLen, dLen, fTuple, wipeE, restE, noMut, itemsD, dSl, ixN, e1, i0, hn, hi, hil, List.map_set]
    obtain ⟨c', ps', s3', s7', g, w, a, b⟩ := parts_loop (k := k) m0 m1 r c1 (ps.set i.toNat (ps[i.toNat] + 1)) (s + 1) (.dat d) (.dat (.int i)) w1 (.inr ⟨_, _, rfl, rfl⟩)
      ⟨by rw [List.length_set]; exact hp.l, fun p hm => by
        rcases List.mem_or_eq_of_mem_set hm with hm | rfl
        · exact hp.p p hm
        · have := hp.p _ (List.getElem_mem hi); omega, by rw [sum_set hi, hp.s]; omega⟩
    refine ⟨c', ps', s3', s7', by simp only [forD, st, g], w, a, ?_⟩
    simp only [List.length_cons]
    rw [show s + ((r.length + 1 : Nat) : Int) = s + 1 + r.length by omega]
    exact b
end Dw


set_option Elab.async false
set_option linter.all false
set_option maxRecDepth 100000
set_option maxHeartbeats 4000000
namespace Dw
open PySem PySem.Spec PyProof.Rows L2 Gd Dx
theorem dDiv_ok {i p : Int} (h0 : 1 ≤ p) (h1 : p ≤ 9) : dDiv (.int i) (.int p) = some (.int (i / p)) := by
  have : p = 1 ∨ p = 2 ∨ p = 3 ∨ p = 4 ∨ p = 5 ∨ p = 6 ∨ p = 7 ∨ p = 8 ∨ p = 9 := by omega
  show (if 0 < p ∧ p.natAbs.log2 < 9000 then _ else _) = _
  rw [if_pos ⟨by omega, by rcases this with rfl | rfl | rfl | rfl | rfl | rfl | rfl | rfl | rfl <;> decide⟩]
abbrev lineBody : D → SV := bodyD (tTup 2 (tCons (tName 7) (tCons (tName 8) tNil))) (sSeq (sAsg (eOp dAdd (eC (.int 1)) (eCallB m__law_draw 0 (aCons (eCallB m__law_pick 0 (aCons (eLst (aCons (eC (.int 1)) (aCons (eC (.int 2)) (aCons (eC (.int 4)) (aCons (eC (.int 6)) (aCons (eC (.int 9)) aNil)))))) aNil)) aNil))) (tName 9))
  (sSeq (sAsg (eOp dDiv (eOp dSub (eOp dAdd (eOp dMul (eC (.int 10)) (eV 9)) (eIxO 5 (eV 7))) (eC (.int 1))) (eIxO 5 (eV 7))) (tName 10))
  (sSeq (sAsg (eOp dAdd (eV 10) (eCallB m__law_pick 0 (aCons (eLst (aCons (eC (.int 0)) (aCons (eC (.int 0)) (aCons (eC (.int 1)) (aCons (eC (.int 3)) (aCons (eC (.int 7)) aNil)))))) aNil))) (tName 10))
  (sSeq (sAsg (eOp dAdd (eV 9) (eCallB m__law_draw 0 (aCons (eCallB m__law_pick 0 (aCons (eLst (aCons (eC (.int 1)) (aCons (eOp dAdd (eV 9) (eC (.int 1))) (aCons (eC (.int 6)) (aCons (eC (.int 15)) (aCons (eOp dMul (eC (.int 2)) (eV 10)) (aCons (eC (.int 60)) aNil))))))) aNil)) aNil))) (tName 11))
  (sSeq (sAsg (eCallB m__law_pick 0 (aCons (eLst (aCons (eV 11) (aCons (eV 11) (aCons (eV 10) aNil)))) aNil)) (tName 11))
  (sApp 6 (eTup (aCons (eV 8) (aCons (eV 9) (aCons (eV 10) (aCons (eV 11) (aCons (eCallB m__law_draw 0 (aCons (eC (.int 7)) aNil)) (aCons (eCallB m__law_sections 0 (aCons (eV 9) (aCons (eV 4) aNil))) aNil)))))))))))))
def fr2 (c : Cell) (k : D) (mu : Int) (s3 : Slot) (m : List Str) (ps : List Int) (found : List D) (s7 s8 s9 s10 s11 : Slot) : Ev :=
  [.bor c, .dat k, .dat (.int mu), s3, .dat (.lst (m.map D.str)), .own (.lst (ps.map D.int)), .own (.lst found), s7, s8, s9, s10, s11]
theorem line_step {k : D} {mu : Int} {s3 : Slot} {m : List Str} {ps : List Int} (hm : m ≠ []) (hl : m.length ≤ big) (hn : ∀ x ∈ m, x ∈ nmS) (hp : ∀ p ∈ ps, 1 ≤ p ∧ p ≤ 9)
    {c : Cell} (h : StOk c) {found : List D} (hf : found.length < big) {s7 s8 s9 s10 s11 : Slot}
    (hs : (s7 = .no ∨ ∃ a, s7 = .dat a) ∧ ((s8 = .no ∧ s9 = .no ∧ s10 = .no ∧ s11 = .no) ∨ ∃ a b c d, s8 = .dat a ∧ s9 = .dat b ∧ s10 = .dat c ∧ s11 = .dat d))
    {i : Nat} (hi : i < ps.length) {n : Str} (nn : n ∈ nmS) :
    ∃ (c' : Cell) (l : Ln) (a b d e f : D), lineBody (.tup [.int i, .str n]) (fr2 c k mu s3 m ps found s7 s8 s9 s10 s11) = .ok .nx (fr2 c' k mu s3 m ps (found ++ [l.d]) (.dat a) (.dat b) (.dat d) (.dat e) (.dat f)) ∧ StOk c' ∧ l.ok ∧ l.n = n ∧ l.p = ps[i] := by
  obtain ⟨x1, c1, e1, m1, w1⟩ := pick_ok h (xs := [.int 1, .int 2, .int 4, .int 6, .int 9]) (by simp [-Re.bind, ↓bind_m, big, fnB, start0, endB, bors, Slot.lent, dLt, dGt, dGe, dAdd, dSub, dMul, dMod, fInt, dIx, atI, fLen, dLen, fTuple, wipeE, restE, noMut, itemsD, dSl, ixN]) (by decide)
  have t1 : ∃ v : Int, x1 = .int v ∧ 0 < v ∧ v ≤ 9 := by
    simp only [List.mem_cons, List.not_mem_nil, or_false] at m1
    rcases m1 with rfl | rfl | rfl | rfl | rfl <;> exact ⟨_, rfl, by decide, by decide⟩
  obtain ⟨v, rfl, v0, v9⟩ := t1
  obtain ⟨q, c2, e2, q0, q1, w2⟩ := draw_ok w1 v0 (by omega)
  obtain ⟨p0, p9⟩ := hp _ (List.getElem_mem hi)
  obtain ⟨wd0, wd1, wd2⟩ := wide_ok (h := 1 + q) (p := ps[i]) (by omega) (by omega) p0 p9
  have dv := dDiv_ok (i := 10 * (1 + q) + ps[i] - 1) p0 p9
  have mu1 : okMul 10 (1 + q) = true := okMul_l _ (by decide) (by decide)
  obtain ⟨x3, c3, e3, m3, w3⟩ := pick_ok w2 (xs := [.int 0, .int 0, .int 1, .int 3, .int 7]) (by simp [-Re.bind, ↓bind_m, big, fnB, start0, endB, bors, Slot.lent, dLt, dGt, dGe, dAdd, dSub, dMul, dMod, fInt, dIx, atI, fLen, dLen, fTuple, wipeE, restE, noMut, itemsD, dSl, ixN]) (by decide)
  have t3 : ∃ v : Int, x3 = .int v ∧ 0 ≤ v ∧ v ≤ 7 := by
    simp only [List.mem_cons, List.not_mem_nil, or_false] at m3
    rcases m3 with rfl | rfl | rfl | rfl | rfl <;> exact ⟨_, rfl, by decide, by decide⟩
  obtain ⟨u, rfl, u0, u7⟩ := t3
  generalize hw : (10 * (1 + q) + ps[i] - 1) / ps[i] = wd at *
  have mu2 : okMul 2 (wd + u) = true := okMul_l _ (by decide) (by decide)
  obtain ⟨x4, c4, e4, m4, w4⟩ := pick_ok w3 (xs := [.int 1, .int (1 + q + 1), .int 6, .int 15, .int (2 * (wd + u)), .int 60]) (by simp [-Re.bind, ↓bind_m, big, fnB, start0, endB, bors, Slot.lent, dLt, dGt, dGe, dAdd, dSub, dMul, dMod, fInt, dIx, atI, fLen, dLen, fTuple, wipeE, restE, noMut, itemsD, dSl, ixN]) (by simp [-Re.bind, ↓bind_m, big, fnB, start0, endB, bors, Slot.lent, dLt, dGt, dGe, dAdd, dSub, dMul, dMod, fInt, dIx, atI, fLen, dLen, fTuple, wipeE, restE, noMut, itemsD, dSl, ixN])
  have t4 : ∃ v : Int, x4 = .int v ∧ 0 < v ∧ v ≤ 200 := by
    simp only [List.mem_cons, List.not_mem_nil, or_false] at m4
    rcases m4 with rfl | rfl | rfl | rfl | rfl | rfl <;> exact ⟨_, rfl, by omega, by omega⟩
  obtain ⟨z, rfl, z0, z9⟩ := t4
  obtain ⟨y, c5, e5, y0, y1, w5⟩ := draw_ok w4 z0 (by omega)
  obtain ⟨x6, c6, e6, m6, w6⟩ := pick_ok w5 (xs := [.int (1 + q + y), .int (1 + q + y), .int (wd + u)]) (by simp [-Re.bind, ↓bind_m, big, fnB, start0, endB, bors, Slot.lent, dLt, dGt, dGe, dAdd, dSub, dMul, dMod, fInt, dIx, atI, fLen, dLen, fTuple, wipeE, restE, noMut, itemsD, dSl, ixN]) (by simp [-Re.bind, ↓bind_m, big, fnB, start0, endB, bors, Slot.lent, dLt, dGt, dGe, dAdd, dSub, dMul, dMod, fInt, dIx, atI, fLen, dLen, fTuple, wipeE, restE, noMut, itemsD, dSl, ixN])
  have t6 : ∃ v : Int, x6 = .int v ∧ 1 ≤ v ∧ v ≤ 300 := by
    simp only [List.mem_cons, List.not_mem_nil, or_false] at m6
    rcases m6 with rfl | rfl | rfl <;> exact ⟨_, rfl, by omega, by omega⟩
  obtain ⟨du, rfl, du0, du1⟩ := t6
  obtain ⟨rm, c7, e7, r0, r1, w7⟩ := draw_ok w6 (n := 7) (by decide) (by decide)
  obtain ⟨xs, c8, e8, w8, gx, gc, gl⟩ := sections_ok w7 (1 + q) hm hl hn
  have hil : (i : Int) < ps.length := by omega
  have hf' : found.length < 1000000 := hf
  refine ⟨c8, ⟨n, 1 + q, wd + u, du, rm, xs, ps[i]⟩, .int i, .str n, .int (1 + q), .int (wd + u), .int du, ?_, w8,
    ⟨nn, by show 1 ≤ 1 + q; omega, by show 1 + q ≤ 9; omega, by show 1 ≤ wd + u; omega, by show wd + u ≤ 97; omega, du0, du1, r0, by show rm ≤ 6; omega, gx, gc, gl, p0, wd2 u u0⟩, rfl, rfl⟩
  obtain ⟨hs7, hs8⟩ := hs
  rcases hs7 with rfl | ⟨_, rfl⟩ <;> rcases hs8 with ⟨rfl, rfl, rfl, rfl⟩ | ⟨_, _, _, _, rfl, rfl, rfl, rfl⟩ <;>
    simp [-Re.bind, ↓bind_m, big, fnB, start0, endB, bors, Slot.lent, dLt, dGt, dGe, dAdd, dSub, dMul, dMod, fInt, dIx, atI, fLen, dLen, fTuple, wipeE, restE, noMut, itemsD, dSl, ixN, fr2, Ln.d, e1, e2, mu1, hi, hil, dv, hw, e3, mu2, e4, e5, e6, e7, e8, hf']

theorem lines_loop {k : D} {mu : Int} {s3 : Slot} {m : List Str} {ps : List Int} (hm : m ≠ []) (hl : m.length ≤ big) (hn : ∀ x ∈ m, x ∈ nmS) (hp : ∀ p ∈ ps, 1 ≤ p ∧ p ≤ 9) (hbig : ps.length < big) :
    ∀ (ns : List Str) (i : Nat) (c : Cell) (ls : List Ln) (s7 s8 s9 s10 s11 : Slot), StOk c →
    ((s7 = .no ∨ ∃ a, s7 = .dat a) ∧ ((s8 = .no ∧ s9 = .no ∧ s10 = .no ∧ s11 = .no) ∨ ∃ a b c d, s8 = .dat a ∧ s9 = .dat b ∧ s10 = .dat c ∧ s11 = .dat d)) →
    i + ns.length = ps.length → ls.length = i → (∀ x ∈ ns, x ∈ nmS) → (∀ l ∈ ls, l.ok) → ls.map Ln.p = ps.take i →
    ∃ (c' : Cell) (ls' : List Ln) (t7 t8 t9 t10 t11 : Slot), forD lineBody (Dx.pairD ((List.range' i ns.length).map fun (j : Nat) => D.int j) (ns.map D.str)) (fr2 c k mu s3 m ps (ls.map Ln.d) s7 s8 s9 s10 s11) = .ok .nx (fr2 c' k mu s3 m ps (ls'.map Ln.d) t7 t8 t9 t10 t11) ∧
      StOk c' ∧ (∀ l ∈ ls', l.ok) ∧ ls'.map Ln.n = ls.map Ln.n ++ ns ∧ ls'.map Ln.p = ps
  | [], i, c, ls, s7, s8, s9, s10, s11, h, hs, hi, he, hns, ho, hpp => ⟨c, ls, s7, s8, s9, s10, s11, rfl, h, ho, by simp [-Re.bind, ↓bind_m, big, fnB, start0, endB, bors, Slot.lent, dLt, dGt, dGe, dAdd, dSub, dMul, dMod, fInt, dIx, atI, fLen, dLen, fTuple, wipeE, restE, noMut, itemsD, dSl, ixN], by
      simp only [List.length_nil, Nat.add_zero] at hi
      rw [hpp, hi, List.take_length]⟩
  | n :: r, i, c, ls, s7, s8, s9, s10, s11, h, hs, hi, he, hns, ho, hpp => by
    simp only [List.length_cons] at hi
    have hi' : i < ps.length := by omega
    obtain ⟨c1, l, a, b, d, e, f, st, w1, lo, ln, lp⟩ := line_step (k := k) (mu := mu) (s3 := s3) hm hl hn hp h (found := ls.map Ln.d) (by rw [List.length_map, he]; exact Nat.lt_trans hi' hbig) hs hi' (hns n List.mem_cons_self)
    have hfa : ls.map Ln.d ++ [l.d] = (ls ++ [l]).map Ln.d := by simp [-Re.bind, ↓bind_m, big, fnB, start0, endB, bors, Slot.lent, dLt, dGt, dGe, dAdd, dSub, dMul, dMod, fInt, dIx, atI, fLen, dLen, fTuple, wipeE, restE, noMut, itemsD, dSl, ixN]
    rw [hfa] at st
    obtain ⟨c', ls', t7, t8, t9, t10, t11, g, w, o', nn, pp⟩ := lines_loop (k := k) (mu := mu) (s3 := s3) hm hl hn hp hbig r (i + 1) c1 (ls ++ [l]) (.dat a) (.dat b) (.dat d) (.dat e) (.dat f) w1
      ⟨.inr ⟨_, rfl⟩, .inr ⟨_, _, _, _, rfl, rfl, rfl, rfl⟩⟩ (by omega) (by simp [-Re.bind, ↓bind_m, big, fnB, start0, endB, bors, Slot.lent, dLt, dGt, dGe, dAdd, dSub, dMul, dMod, fInt, dIx, atI, fLen, dLen, fTuple, wipeE, restE, noMut, itemsD, dSl, ixN, he]) (fun x hx => hns x (List.mem_cons_of_mem _ hx))
      (fun y hy => by
        rcases List.mem_append.mp hy with hy | hy
        · exact ho y hy
        · simp only [List.mem_singleton] at hy; exact hy ▸ lo)
      (by rw [List.map_append, hpp, List.take_succ, List.getElem?_eq_getElem hi']; simp [-Re.bind, ↓bind_m, big, fnB, start0, endB, bors, Slot.lent, dLt, dGt, dGe, dAdd, dSub, dMul, dMod, fInt, dIx, atI, fLen, dLen, fTuple, wipeE, restE, noMut, itemsD, dSl, ixN, lp])
    refine ⟨c', ls', t7, t8, t9, t10, t11, ?_, w, o', by rw [nn]; simp [-Re.bind, ↓bind_m, big, fnB, start0, endB, bors, Slot.lent, dLt, dGt, dGe, dAdd, dSub, dMul, dMod, fInt, dIx, atI, fLen, dLen, fTuple, wipeE, restE, noMut, itemsD, dSl, ixN, ln], pp⟩
    have e2 : Dx.pairD ((List.range' i (n :: r).length).map fun (j : Nat) => D.int j) ((n :: r).map D.str) = .tup [.int i, .str n] :: Dx.pairD ((List.range' (i + 1) r.length).map fun (j : Nat) => D.int j) (r.map D.str) := rfl
    rw [e2]
    simp only [forD, st, g]
end Dw


set_option Elab.async false
set_option linter.all false
set_option maxRecDepth 100000
set_option maxHeartbeats 4000000
namespace Dw
open PySem PySem.Spec PyProof.Rows L2 Gd Dx
theorem enum_eq (m : List Str) : enumD (m.map D.str) = Dx.pairD ((List.range' 0 m.length).map fun (j : Nat) => D.int j) (m.map D.str) := by
  unfold enumD
  rw [List.length_map, List.range_eq_range']
theorem rep_eq (n : Nat) : (List.replicate n [D.int 1]).flatten = List.replicate n (D.int 1) := by
  induction n with
  | zero => rfl
  | succ n ih => simp [-Re.bind, ↓bind_m, big, fnB, start0, endB, bors, Slot.lent, dLt, dGt, dGe, dAdd, dSub, dMul, dMod, fInt, dIx, atI, fLen, dLen, fTuple, wipeE, restE, noMut, itemsD, dSl, ixN, List.replicate_succ, ih]
theorem some_ok {c : Cell} (h : StOk c) {k : Int} (k0 : 0 ≤ k) (k8 : k ≤ 8) :
    ∃ (ls : List Ln) (c' : Cell), m__law_some [c] [.int k] = .ok (.tup (ls.map Ln.d)) [c'] ∧ StOk c' ∧ (∀ l ∈ ls, l.ok) ∧ (ls.map Ln.n).Nodup ∧ (ls.map Ln.p).sum ≤ 9 ∧ ls.length ≤ k.toNat := by
  obtain ⟨mu, c1, e1, m0, m1, w1⟩ := draw_ok h (n := k + 1) (by omega) (by omega)
  have q1 : mu.toNat ≤ 1000000 := by omega
  have q2 : mu.natAbs < 2 ^ 63 := by omega
  by_cases mp : 0 < mu
  · obtain ⟨tn, c2, e2, t0, t1, w2⟩ := draw_ok w1 (n := 10 - mu) (by omega) (by omega)
    have ok : okR tn = true := okR_of (by omega) (by omega)
    have ln : (rngD 0 tn).length = tn.toNat := by simp [-Re.bind, ↓bind_m, big, fnB, start0, endB, bors, Slot.lent, dLt, dGt, dGe, dAdd, dSub, dMul, dMod, fInt, dIx, atI, fLen, dLen, fTuple, wipeE, restE, noMut, itemsD, dSl, ixN, rngD]
    obtain ⟨c3, ps, s3, s7, g1, w3, hs7, hps⟩ := parts_loop (k := .int k) mp (by omega) (rngD 0 tn) c2 (List.replicate mu.toNat 1) mu .no .no w2 (.inl ⟨rfl, rfl⟩)
      ⟨by simp [-Re.bind, ↓bind_m, big, fnB, start0, endB, bors, Slot.lent, dLt, dGt, dGe, dAdd, dSub, dMul, dMod, fInt, dIx, atI, fLen, dLen, fTuple, wipeE, restE, noMut, itemsD, dSl, ixN], fun p hp => by rw [List.eq_of_mem_replicate hp]; exact Int.le_refl _, by
        have : ∀ n : Nat, (List.replicate n (1 : Int)).sum = n := fun n => by
          induction n with
          | zero => rfl
          | succ n ih => rw [List.replicate_succ, List.sum_cons, ih]; omega
        rw [this]; omega⟩
    obtain ⟨lk, c4, e4, l1, l2, l3, w4⟩ := names_ok w3 (k := 2) (by decide) (by decide)
    obtain ⟨nm, c5, e5, n1, n2, n3, w5⟩ := names_ok w4 (k := mu) (by omega) (by omega)
    have hlk : lk ≠ [] := fun z => by rw [z] at l1; cases l1
    have sm : ps.sum ≤ 9 := by rw [hps.s, ln]; omega
    have hp9 : ∀ p ∈ ps, 1 ≤ p ∧ p ≤ 9 := fun p hp => ⟨hps.p p hp, Int.le_trans (le_sum hps.p hp) sm⟩
    have hpl := hps.l
    obtain ⟨c6, ls, t7, t8, t9, t10, t11, g2, w6, o, on, op⟩ := lines_loop (k := .int k) (mu := mu) (s3 := s3) hlk (by rw [l1]; decide) l3 hp9 (by show _ < 1000000; omega) nm 0 c5 [] s7 .no .no .no .no w5 ⟨hs7, .inl ⟨rfl, rfl, rfl, rfl⟩⟩
      (by rw [n1, hpl]; omega) rfl n3 (fun _ h => nomatch h) (by simp [-Re.bind, ↓bind_m, big, fnB, start0, endB, bors, Slot.lent, dLt, dGt, dGe, dAdd, dSub, dMul, dMod, fInt, dIx, atI, fLen, dLen, fTuple, wipeE, restE, noMut, itemsD, dSl, ixN])
    have lsl : ls.length = nm.length := by
      have := congrArg List.length on
      simpa [-Re.bind, ↓bind_m, big, fnB, start0, endB, bors, Slot.lent, dLt, dGt, dGe, dAdd, dSub, dMul, dMod, fInt, dIx, atI, fLen, dLen, fTuple, wipeE, restE, noMut, itemsD, dSl, ixN] using this
    refine ⟨ls, c6, ?_, w6, o, by rw [on]; simpa [-Re.bind, ↓bind_m, big, fnB, start0, endB, bors, Slot.lent, dLt, dGt, dGe, dAdd, dSub, dMul, dMod, fInt, dIx, atI, fLen, dLen, fTuple, wipeE, restE, noMut, itemsD, dSl, ixN] using n2, by rw [op]; exact sm, by rw [lsl, n1]; omega⟩
    simp only [fr2, List.map_nil, ← enum_eq] at g2
    rw [List.map_replicate] at g1
    have r1 : (1 : Nat) * mu.toNat ≤ 1000000 := by omega
    simp [-Re.bind, ↓bind_m, big, fnB, start0, endB, bors, Slot.lent, dLt, dGt, dGe, dAdd, dSub, dMul, dMod, fInt, dIx, atI, fLen, dLen, fTuple, wipeE, restE, noMut, itemsD, dSl, ixN, m__law_some, e1, runM, Cell.plain, okSet, putS, q1, q2, rep_eq, mp, e2, ok, g1, e4, e5, g2]
  · have mz : mu = 0 := by omega
    subst mz
    obtain ⟨lk, c4, e4, l1, l2, l3, w4⟩ := names_ok w1 (k := 2) (by decide) (by decide)
    obtain ⟨nm, c5, e5, n1, n2, n3, w5⟩ := names_ok w4 (k := 0) (by decide) (by decide)
    have : nm = [] := List.eq_nil_of_length_eq_zero (by rw [n1]; rfl)
    subst this
    have okz : okR 0 = true := by decide
    refine ⟨[], c5, ?_, w5, (fun _ h => nomatch h), List.Pairwise.nil, by simp [-Re.bind, ↓bind_m, big, fnB, start0, endB, bors, Slot.lent, dLt, dGt, dGe, dAdd, dSub, dMul, dMod, fInt, dIx, atI, fLen, dLen, fTuple, wipeE, restE, noMut, itemsD, dSl, ixN], Nat.zero_le _⟩
    simp [-Re.bind, ↓bind_m, big, fnB, start0, endB, bors, Slot.lent, dLt, dGt, dGe, dAdd, dSub, dMul, dMod, fInt, dIx, atI, fLen, dLen, fTuple, wipeE, restE, noMut, itemsD, dSl, ixN] at e5
    simp [-Re.bind, ↓bind_m, big, fnB, start0, endB, bors, Slot.lent, dLt, dGt, dGe, dAdd, dSub, dMul, dMod, fInt, dIx, atI, fLen, dLen, fTuple, wipeE, restE, noMut, itemsD, dSl, ixN, m__law_some, e1, runM, Cell.plain, okSet, putS, okz, rngD, forD, e4, e5, enumD, Dx.pairD]
end Dw


set_option Elab.async false
set_option linter.all false
set_option maxRecDepth 100000
set_option maxHeartbeats 4000000
namespace Dw
open PySem PySem.Spec PyProof.Rows L2 Gd Dx
mutual
theorem eqv_pl : ∀ (n : Nat) (d : D), pl n d = true → PyData.eqv (pd d) (pd d) = true
  | 0, _, h => by simp [-Re.bind, ↓bind_m, big, fnB, start0, endB, bors, Slot.lent, dLt, dGt, dGe, dAdd, dSub, dMul, dMod, fInt, dIx, atI, fLen, dLen, fTuple, wipeE, restE, noMut, itemsD, dSl, ixN, pl] at h
  | _ + 1, .non, _ => rfl
  | _ + 1, .bl b, _ => by simp [-Re.bind, ↓bind_m, big, fnB, start0, endB, bors, Slot.lent, dLt, dGt, dGe, dAdd, dSub, dMul, dMod, fInt, dIx, atI, fLen, dLen, fTuple, wipeE, restE, noMut, itemsD, dSl, ixN, pd, PyData.eqv]
  | _ + 1, .int b, _ => by simp [-Re.bind, ↓bind_m, big, fnB, start0, endB, bors, Slot.lent, dLt, dGt, dGe, dAdd, dSub, dMul, dMod, fInt, dIx, atI, fLen, dLen, fTuple, wipeE, restE, noMut, itemsD, dSl, ixN, pd, PyData.eqv]
  | _ + 1, .str b, _ => by simp [-Re.bind, ↓bind_m, big, fnB, start0, endB, bors, Slot.lent, dLt, dGt, dGe, dAdd, dSub, dMul, dMod, fInt, dIx, atI, fLen, dLen, fTuple, wipeE, restE, noMut, itemsD, dSl, ixN, pd, PyData.eqv]
  | n + 1, .tup xs, h => by simp only [pd, PyData.eqv]; exact eqv_plL n xs (by simpa only [pl] using h)
  | n + 1, .lst xs, h => by simp only [pd, PyData.eqv]; exact eqv_plL n xs (by simpa only [pl] using h)
  | _ + 1, .dic _, h => by simp [-Re.bind, ↓bind_m, big, fnB, start0, endB, bors, Slot.lent, dLt, dGt, dGe, dAdd, dSub, dMul, dMod, fInt, dIx, atI, fLen, dLen, fTuple, wipeE, restE, noMut, itemsD, dSl, ixN, pl] at h
  | _ + 1, .obj _ _, h => by simp [-Re.bind, ↓bind_m, big, fnB, start0, endB, bors, Slot.lent, dLt, dGt, dGe, dAdd, dSub, dMul, dMod, fInt, dIx, atI, fLen, dLen, fTuple, wipeE, restE, noMut, itemsD, dSl, ixN, pl] at h
  | _ + 1, .ty _, h => by simp [-Re.bind, ↓bind_m, big, fnB, start0, endB, bors, Slot.lent, dLt, dGt, dGe, dAdd, dSub, dMul, dMod, fInt, dIx, atI, fLen, dLen, fTuple, wipeE, restE, noMut, itemsD, dSl, ixN, pl] at h
  | _ + 1, .cls _, h => by simp [-Re.bind, ↓bind_m, big, fnB, start0, endB, bors, Slot.lent, dLt, dGt, dGe, dAdd, dSub, dMul, dMod, fInt, dIx, atI, fLen, dLen, fTuple, wipeE, restE, noMut, itemsD, dSl, ixN, pl] at h
  | _ + 1, .scr _, h => by simp [-Re.bind, ↓bind_m, big, fnB, start0, endB, bors, Slot.lent, dLt, dGt, dGe, dAdd, dSub, dMul, dMod, fInt, dIx, atI, fLen, dLen, fTuple, wipeE, restE, noMut, itemsD, dSl, ixN, pl] at h
theorem eqv_plL : ∀ (n : Nat) (ds : List D), plL n ds = true → PyData.eqvAll (pdL ds) (pdL ds) = true
  | _, [], _ => rfl
  | n, d :: r, h => by
    simp only [plL, Bool.and_eq_true] at h
    simp only [pdL, PyData.eqvAll, eqv_pl n d h.1, eqv_plL n r h.2, Bool.and_self]
end

theorem dNe_self {d : D} (h : pl 16 d = true) : dNe d d = some (.bl false) := by
  unfold dNe
  rw [if_pos ⟨h, h⟩, eqv_pl 16 d h]; rfl
theorem dEq_self {d : D} (h : pl 16 d = true) : dEq d d = some (.bl true) := by
  unfold dEq
  rw [if_pos ⟨h, h⟩, eqv_pl 16 d h]
theorem plL_of {n : Nat} : ∀ {xs : List D}, (∀ x ∈ xs, pl n x = true) → plL n xs = true
  | [], _ => by cases n <;> rfl
  | x :: r, h => by simp [-Re.bind, ↓bind_m, big, fnB, start0, endB, bors, Slot.lent, dLt, dGt, dGe, dAdd, dSub, dMul, dMod, fInt, dIx, atI, fLen, dLen, fTuple, wipeE, restE, noMut, itemsD, dSl, ixN, plL, h x List.mem_cons_self, plL_of fun y hy => h y (List.mem_cons_of_mem _ hy)]
theorem GoodX.pl {x : D} (h : GoodX x) (n : Nat) : Dx.pl (n + 2) x = true := by
  obtain ⟨b, e, l, rfl, _⟩ := h
  simp [-Re.bind, ↓bind_m, big, fnB, start0, endB, bors, Slot.lent, dLt, dGt, dGe, dAdd, dSub, dMul, dMod, fInt, dIx, atI, fLen, dLen, fTuple, wipeE, restE, noMut, itemsD, dSl, ixN, Dx.pl, plL]
theorem pl_secs {xs : List D} (h : ∀ x ∈ xs, GoodX x) (n : Nat) : Dx.pl (n + 3) (.tup xs) = true := by
  simp only [Dx.pl]
  exact plL_of fun x hx => (h x hx).pl n
theorem Ln.ok.pl {l : Ln} (h : l.ok) (n : Nat) : Dx.pl (n + 4) l.d = true := by
  have := plL_of (n := n + 2) fun x hx => (h.x x hx).pl n
  simp only [Ln.d, Dx.pl, plL, this, Bool.and_self]
theorem pl_lines {ls : List Ln} (h : ∀ l ∈ ls, l.ok) (n : Nat) : Dx.pl (n + 5) (.tup (ls.map Ln.d)) = true := by
  simp only [Dx.pl]
  exact plL_of fun x hx => by
    simp only [List.mem_map] at hx
    obtain ⟨l, hl, rfl⟩ := hx
    exact (h l hl).pl n
/-- a good section -/
def GoodY (d : D) : Prop := ∃ b e l, d = .tup [.int b, .int e, .str l] ∧ nameB (.str l) = true
theorem nm_name {x : Str} (h : x ∈ nmS) : nameB (.str x) = true := by
  have : nmS.all (fun x => nameB (.str x)) = true := by decide +kernel
  exact List.all_eq_true.mp this x h
theorem GoodX.y {d : D} (h : GoodX d) : GoodY d := by
  obtain ⟨b, e, l, rfl, hl⟩ := h
  exact ⟨b, e, l, rfl, nm_name hl⟩
/-- a line that is a task -/
structure Ln.fine (l : Ln) : Prop where
  n : nameB (.str l.n) = true
  L0 : 1 ≤ l.L
  L1 : l.L ≤ 100
  g0 : 1 ≤ l.g
  g1 : l.g ≤ 1000
  d0 : 1 ≤ l.dl
  d1 : l.dl ≤ 20000
  r0 : 0 ≤ l.r
  r1 : l.r ≤ 1000000
  x : ∀ x ∈ l.xs, GoodY x
  c : chainB l.L 0 l.xs = true
  l3 : l.xs.length ≤ 8
theorem Ln.ok.fine {l : Ln} (h : l.ok) : l.fine :=
  ⟨nm_name h.n, h.L0, by have := h.L1; omega, h.g0, by have := h.g1; omega, h.d0, by have := h.d1; omega, h.r0, by have := h.r1; omega, fun x hx => (h.x x hx).y, h.c, by have := h.l3; omega⟩
end Dw


set_option Elab.async false
set_option linter.all false
set_option maxRecDepth 100000
set_option maxHeartbeats 4000000
/-! the stream, walks that keep something, sums -/
namespace Dw
open PySem PySem.Spec PyProof.Rows L2 Gd Dx
theorem pows : ∃ Q P : Int, dPow (.int 10) (.int 60) = some (.int Q) ∧ dPow (.int Q) (.int 10) = some (.int P) ∧ 0 < P := by
  refine ⟨10 ^ 60, (10 ^ 60) ^ 10, ?_, ?_, by decide +kernel⟩
  · show (if 0 ≤ (60 : Int) ∧ (Builtin.Int.intBits 10 : Int) * 60 ≤ 2 ^ 27 then some (D.int (10 ^ (60 : Int).toNat)) else none) = _
    rw [if_pos (by decide +kernel)]; rfl
  · show (if 0 ≤ (10 : Int) ∧ (Builtin.Int.intBits (10 ^ 60) : Int) * 10 ≤ 2 ^ 27 then some (D.int ((10 ^ 60) ^ (10 : Int).toNat)) else none) = _
    rw [if_pos (by decide +kernel)]; rfl
theorem pow18 : dPow (.int 10) (.int 18) = some (.int 1000000000000000000) := by
  show (if 0 ≤ (18 : Int) ∧ (Builtin.Int.intBits 10 : Int) * 18 ≤ 2 ^ 27 then some (D.int (10 ^ (18 : Int).toNat)) else none) = _
  rw [if_pos (by decide +kernel)]; rfl
theorem stream_ok' (ns : List Int) {k : Int} (k0 : 0 ≤ k) : ∃ x y z : Int, m__law_stream [] [.scr ns, .int k] = .okc (.lst [.int x, .int y, .int z]) [] := by
  obtain ⟨Q, P, e1, e2, p⟩ := pows
  have o1 : okMul 17 k = true := okMul_l _ (by decide) (by decide)
  have o2 : okMul 2011 k = true := okMul_l _ (by decide) (by decide)
  have o3 : ∀ i, okMul i 45083 = true := fun i => okMul_r i (by decide) (by decide)
  have o4 : ∀ i, okMul 7 i = true := fun i => okMul_l i (by decide) (by decide)
  have kn : ¬ k < 0 := by omega
  by_cases h : k < ns.length
  · have h2 : k.toNat < ns.length := by omega
    have key : ∀ cell : Int, ns[k.toNat] = cell → ∃ x y z : Int, m__law_stream [] [.scr ns, .int k] = .okc (.lst [.int x, .int y, .int z]) [] := fun cell hcell => by
      by_cases z : cell < 0 <;> simp [-Re.bind, ↓bind_m, big, fnB, start0, endB, bors, Slot.lent, dLt, dGt, dGe, dAdd, dSub, dMul, dMod, fInt, fAbs, dIx, atI, fLen, dLen, fTuple, wipeE, restE, noMut, itemsD, dSl, ixN, m__law_stream, o1, o2, o3, o4, h, kn, h2, hcell, z, e1, e2, p, pow18, fMax, k0]
    exact key _ rfl
  · have z : ¬ 17 * k + 3 < 0 := by omega
    simp [-Re.bind, ↓bind_m, big, fnB, start0, endB, bors, Slot.lent, dLt, dGt, dGe, dAdd, dSub, dMul, dMod, fInt, fAbs, dIx, atI, fLen, dLen, fTuple, wipeE, restE, noMut, itemsD, dSl, ixN, m__law_stream, o1, o2, o3, o4, h, kn, z, e1, e2, p, pow18, fMax, k0]
theorem stream_ok (ns : List Int) {k : Int} (k0 : 0 ≤ k) : ∃ c, m__law_stream [] [.scr ns, .int k] = .okc c [] ∧ StOk c := by
  obtain ⟨x, y, z, e⟩ := stream_ok' ns k0
  exact ⟨_, e, x, y, z, rfl⟩
theorem forD_keep {b : D → SV} {I : Ev → Prop} : ∀ (ds : List D) (ρ : Ev), I ρ → (∀ d ∈ ds, ∀ ρ, I ρ → ∃ ρ', b d ρ = .ok .nx ρ' ∧ I ρ') → ∃ ρ', forD b ds ρ = .ok .nx ρ' ∧ I ρ'
  | [], ρ, i, _ => ⟨ρ, rfl, i⟩
  | d :: r, ρ, i, h => by
    obtain ⟨ρ1, e1, i1⟩ := h d List.mem_cons_self ρ i
    obtain ⟨ρ', e2, i2⟩ := forD_keep r ρ1 i1 fun x hx => h x (List.mem_cons_of_mem _ hx)
    exact ⟨ρ', by simp only [forD, e1, e2], i2⟩
theorem unI_of {α : Type} (f : α → Int) : ∀ xs : List α, Dx.unI (xs.map fun x => .int (f x)) = some (xs.map f)
  | [] => rfl
  | x :: r => by simp only [List.map_cons, Dx.unI, unI_of f r, Option.map_some]
theorem fSum_of {α : Type} (f : α → Int) (xs : List α) : fSum [.lst (xs.map fun x => .int (f x))] = some (.int (xs.map f).sum) := by
  simp only [fSum, unI_of, Option.map_some]
/-- a slot that holds data or nothing -/
def NoDat (s : Slot) : Prop := s = .no ∨ ∃ a, s = .dat a
theorem NoDat.no : NoDat .no := .inl rfl
theorem NoDat.dat (d : D) : NoDat (.dat d) := .inr ⟨d, rfl⟩
/-- how many cells a law asks -/
theorem cells_rng (m : Int) (h0 : 1 ≤ m) (h1 : m ≤ 100) {ns : List Int} (h : ns.length ≤ 1000000) : ∃ N : Int, fMax [.int 1, .int (if (ns.length : Int) < m then (ns.length : Int) else m)] = some (.int N) ∧ okR N = true ∧ 0 ≤ N ∧ N ≤ 100 := by
  refine ⟨_, rfl, okR_of ?_ ?_, ?_, ?_⟩ <;> split <;> split <;> omega
theorem rngD_mem {lo hi : Int} {d : D} (h : d ∈ rngD lo hi) : ∃ i : Int, d = .int i ∧ lo ≤ i ∧ i < hi := by
  unfold rngD at h
  obtain ⟨i, hi, rfl⟩ := List.mem_map.mp h
  rw [List.mem_range] at hi
  exact ⟨_, rfl, by omega, by omega⟩
theorem cut_from {xs : List D} {k : Int} (h : 0 ≤ k) (h2 : k ≤ xs.length) : cutG xs (some k) none = xs.drop k.toNat := by
  have e : HT.sIx xs.length 0 (some k) = k.toNat := by
    show (if k < 0 then _ else min k.toNat xs.length) = _
    rw [if_neg (by omega)]
    omega
  unfold cutG
  rw [e, HT.sIx_none]
  exact List.take_of_length_le (by rw [List.length_drop]; omega)
end Dw


set_option Elab.async false
set_option linter.all false
set_option maxRecDepth 100000
set_option maxHeartbeats 4000000
namespace Dw
open PySem PySem.Spec PyProof.Rows L2 Gd Dx
theorem GoodY.sect {d : D} (h : GoodY d) : sectB d = true := by
  obtain ⟨b, e, l, rfl, hl⟩ := h
  simp [-Re.bind, ↓bind_m, big, fnB, start0, endB, bors, Slot.lent, dLt, dGt, dGe, dAdd, dSub, dMul, dMod, fInt, dIx, atI, fLen, dLen, fTuple, wipeE, restE, noMut, itemsD, dSl, ixN, sectB, isW, hl]
theorem GoodY.dt {d : D} (h : GoodY d) : Dw.dt d = true := by
  obtain ⟨b, e, l, rfl, hl⟩ := h
  rfl
theorem GoodY.pl {d : D} (h : GoodY d) (n : Nat) : Dx.pl (n + 2) d = true := by
  obtain ⟨b, e, l, rfl, hl⟩ := h
  simp [-Re.bind, ↓bind_m, big, fnB, start0, endB, bors, Slot.lent, dLt, dGt, dGe, dAdd, dSub, dMul, dMod, fInt, dIx, atI, fLen, dLen, fTuple, wipeE, restE, noMut, itemsD, dSl, ixN, Dx.pl, plL]
theorem name_len {x : Str} (h : nameB (.str x) = true) : x.length ≤ 8 ∧ PyData.strOk x = true := by
  simp only [nameB, Bool.and_eq_true, decide_eq_true_eq, List.all_eq_true] at h
  refine ⟨h.1.2, sk_mem.mpr fun c hc => ?_⟩
  have := h.2 c hc
  omega
theorem okD_name {x : Str} (h : nameB (.str x) = true) : okD (.str x) = true := by
  have := name_len h
  simp only [okD, this.2, Bool.and_true, decide_eq_true_eq]
  omega
theorem chain_bound {hi : Int} : ∀ (xs : List D) (free : Int), (∀ x ∈ xs, GoodY x) → chainB hi free xs = true → ∀ x ∈ xs, ∃ b e l, x = .tup [.int b, .int e, .str l] ∧ nameB (.str l) = true ∧ free ≤ b ∧ b < e ∧ e < hi
  | [], _, _, _, _, h => nomatch h
  | x :: r, free, hx, hc, y, hy => by
    obtain ⟨b, e, l, rfl, hl⟩ := hx x List.mem_cons_self
    simp only [chainB, Bool.and_eq_true, decide_eq_true_eq] at hc
    rcases List.mem_cons.mp hy with rfl | hy
    · exact ⟨b, e, l, rfl, hl, hc.1.1.1, hc.1.1.2, hc.1.2⟩
    · obtain ⟨b', e', l', q1, q2, q3, q4⟩ := chain_bound r e (fun z hz => hx z (List.mem_cons_of_mem _ hz)) hc.2 y hy
      exact ⟨b', e', l', q1, q2, by omega, q4⟩
theorem chain_srt {hi : Int} : ∀ (xs : List D) (free : Int), (∀ x ∈ xs, GoodY x) → chainB hi free xs = true → SrtD xs
  | [], _, _, _ => .nil
  | x :: r, free, hx, hc => by
    obtain ⟨b, e, l, rfl, hl⟩ := hx x List.mem_cons_self
    simp only [chainB, Bool.and_eq_true, decide_eq_true_eq] at hc
    have hr : ∀ z ∈ r, GoodY z := fun z hz => hx z (List.mem_cons_of_mem _ hz)
    refine .cons (fun y hy => ?_) (chain_srt r e hr hc.2)
    obtain ⟨b', e', l', rfl, _, q3, _⟩ := chain_bound r e hr hc.2 y hy
    have ne : ¬ (Sum.inl b' : Key) = Sum.inl b := fun c => by have := Sum.inl.inj c; omega
    show lLt [.inl b', .inl e', .inr l'] [.inl b, .inl e, .inr l] = false
    unfold lLt
    rw [if_neg ne]
    show decide (b' < b) = false
    exact decide_eq_false (by omega)
theorem sort_eq {hi : Int} {xs ys : List D} (hx : ∀ x ∈ xs, GoodY x) (hc : chainB hi 0 xs = true) (p : ys.Perm xs) : isort ys = xs := by
  have hk : ∀ z ∈ isort ys, isTupK [true, true, false] z = true := fun z hz => sect_key (hx z (p.mem_iff.mp ((isort_perm ys).mem_iff.mp hz))).sect
  exact srt_one (ordK_tup hk) ((isort_perm ys).trans p) (isort_srt ys) (chain_srt xs 0 hx hc)
section
variable {l : Ln} (h : l.fine)
include h
theorem Ln.fine.sects : l.xs.all sectB = true := List.all_eq_true.mpr fun x hx => (h.x x hx).sect
theorem Ln.fine.task : taskB l.d = true := by
  have a := h.L0; have b := h.L1; have c := h.g0; have d := h.g1; have e := h.d0; have f := h.d1; have g := h.r0; have i := h.r1
  simp [-Re.bind, ↓bind_m, big, fnB, start0, endB, bors, Slot.lent, dLt, dGt, dGe, dAdd, dSub, dMul, dMod, fInt, dIx, atI, fLen, dLen, fTuple, wipeE, restE, noMut, itemsD, dSl, ixN, Ln.d, taskB, h.n, numsB, betwB, sectsB, h.l3, h.sects, h.c, a, b, c, d, e, f, g, i]
theorem Ln.fine.dx : dts l.xs = true := dts_of fun x hx => (h.x x hx).dt
theorem Ln.fine.dt : Dw.dt l.d = true := by simp [-Re.bind, ↓bind_m, big, fnB, start0, endB, bors, Slot.lent, dLt, dGt, dGe, dAdd, dSub, dMul, dMod, fInt, dIx, atI, fLen, dLen, fTuple, wipeE, restE, noMut, itemsD, dSl, ixN, Ln.d, Dw.dt, dts, h.dx]
theorem Ln.fine.pl (n : Nat) : Dx.pl (n + 4) l.d = true := by
  have := plL_of (n := n + 2) fun x hx => (h.x x hx).pl n
  simp only [Ln.d, Dx.pl, plL, this, Bool.and_self]
/-- the task is built -/
theorem Ln.fine.built {ys : List D} (p : ys.Perm l.xs) : builtD (.str l.n) (.int l.L) (.int l.g) (.tup ys) (.int l.dl) (.int l.r) = .ok l.d [] := by
  have e := sort_eq h.x h.c p
  have a : ys.all sectB = true := List.all_eq_true.mpr fun x hx => (h.x x (p.mem_iff.mp hx)).sect
  show (if ys.all sectB = true ∧ taskB (.tup [.str l.n, .int l.L, .int l.g, .int l.dl, .int l.r, .tup (isort ys)]) = true then _ else _) = _
  have t : taskB (.tup [.str l.n, .int l.L, .int l.g, .int l.dl, .int l.r, .tup l.xs]) = true := h.task
  rw [e, if_pos ⟨a, t⟩]
  rfl
end
end Dw


set_option Elab.async false
set_option linter.all false
set_option maxRecDepth 100000
set_option maxHeartbeats 4000000
/-! the tasks of a class: the load, the checks -/
namespace Dw
open PySem PySem.Spec PyProof.Rows L2 Gd Dx
/-! ### the load -/
def shU : List Ln → Int → Int → Int × Int
  | [], u, l => (u, l)
  | a :: r, u, l => shU r (u * a.g + a.L * l) (l * a.g)
theorem okMul_s {i j : Int} (h : j.natAbs < 2 ^ 64) : okMul i j = true := by unfold okMul; rw [decide_eq_true h]; simp [-Re.bind, ↓bind_m, big, fnB, start0, endB, bors, Slot.lent, dLt, dGt, dGe, dLe, dAdd, dSub, dMul, dMod, dDiv, fInt, dIx, atI, fLen, dLen, fTuple, wipeE, restE, noMut, itemsD, dSl, ixN]
theorem okMul_t {i j : Int} (h : i.natAbs < 2 ^ 64) : okMul i j = true := by unfold okMul; rw [decide_eq_true h]; rfl
abbrev shareBody : D → SV := bodyD (tName 1) (sSeq (sAsg (eOp dAdd (eOp dMul (eV 3) (eOp dIx (eV 1) (eC (.int 2)))) (eOp dMul (eOp dIx (eV 1) (eC (.int 1))) (eV 4))) (tName 3))
  (sAsg (eOp dMul (eV 4) (eOp dIx (eV 1) (eC (.int 2)))) (tName 4)))
theorem share_loop {all : D} : ∀ (ls : List Ln) (u w : Int) (s1 : Slot), (∀ x ∈ ls, x.fine) → (s1 = .no ∨ ∃ a, s1 = .dat a) →
    ∃ s', forD shareBody (ls.map Ln.d) [.dat all, s1, .no, .dat (.int u), .dat (.int w)] = .ok .nx [.dat all, s', .no, .dat (.int (shU ls u w).1), .dat (.int (shU ls u w).2)]
  | [], u, w, s1, _, _ => ⟨s1, rfl⟩
  | a :: r, u, w, s1, h, hs => by
    have f := h a List.mem_cons_self
    have g1 := f.g1; have g0 := f.g0; have l0 := f.L0; have l1 := f.L1
    have k1 : okMul u a.g = true := okMul_s (by omega)
    have k2 : okMul a.L w = true := okMul_t (by omega)
    have k3 : okMul w a.g = true := okMul_s (by omega)
    have st : shareBody a.d [.dat all, s1, .no, .dat (.int u), .dat (.int w)] = .ok .nx [.dat all, .dat a.d, .no, .dat (.int (u * a.g + a.L * w)), .dat (.int (w * a.g))] := by
      rcases hs with rfl | ⟨_, rfl⟩ <;> simp [-Re.bind, ↓bind_m, big, fnB, start0, endB, bors, Slot.lent, dLt, dGt, dGe, dLe, dAdd, dSub, dMul, dMod, dDiv, fInt, dIx, atI, fLen, dLen, fTuple, wipeE, restE, noMut, itemsD, dSl, ixN, Ln.d, k1, k2, k3]
    obtain ⟨s', ih⟩ := share_loop (all := all) r (u * a.g + a.L * w) (w * a.g) (.dat a.d) (fun x hx => h x (List.mem_cons_of_mem _ hx)) (.inr ⟨_, rfl⟩)
    exact ⟨s', by simp only [List.map_cons, forD, st, ih, shU]⟩
theorem shU_pos : ∀ (ls : List Ln) (u w : Int), (∀ x ∈ ls, x.fine) → 0 ≤ u → 0 < w → 0 ≤ (shU ls u w).1 ∧ 0 < (shU ls u w).2 ∧ (shU ls u w).2 ≤ w * 1000 ^ ls.length
  | [], u, w, _, hu, hw => ⟨hu, hw, by simp [-Re.bind, ↓bind_m, big, fnB, start0, endB, bors, Slot.lent, dLt, dGt, dGe, dLe, dAdd, dSub, dMul, dMod, dDiv, fInt, dIx, atI, fLen, dLen, fTuple, wipeE, restE, noMut, itemsD, dSl, ixN, shU]⟩
  | a :: r, u, w, h, hu, hw => by
    have f := h a List.mem_cons_self
    have g1 := f.g1; have g0 := f.g0; have l0 := f.L0
    have e1 : 0 ≤ u * a.g := Int.mul_nonneg hu (by omega)
    have e2 : 0 ≤ a.L * w := Int.mul_nonneg (by omega) (by omega)
    have e3 : 0 < w * a.g := Int.mul_pos hw (by omega)
    obtain ⟨p1, p2, p3⟩ := shU_pos r (u * a.g + a.L * w) (w * a.g) (fun x hx => h x (List.mem_cons_of_mem _ hx)) (by omega) e3
    refine ⟨p1, p2, Int.le_trans p3 ?_⟩
    rw [List.length_cons, Int.pow_succ]
    have e4 : w * a.g ≤ w * 1000 := Int.mul_le_mul_of_nonneg_left g1 (by omega)
    have e5 : (0 : Int) ≤ 1000 ^ r.length := Int.pow_nonneg (by decide)
    calc w * a.g * 1000 ^ r.length ≤ w * 1000 * 1000 ^ r.length := Int.mul_le_mul_of_nonneg_right e4 e5
      _ = w * (1000 ^ r.length * 1000) := by rw [Int.mul_assoc, Int.mul_comm 1000 (1000 ^ r.length)]
/-- the load is 9/10 at most -/
theorem shU_load : ∀ (ls : List Ln) (u w P : Int), (∀ x ∈ ls, x.fine ∧ 10 * x.L ≤ x.p * x.g) → 0 < w → 10 * u ≤ P * w → 10 * (shU ls u w).1 ≤ (P + (ls.map Ln.p).sum) * (shU ls u w).2
  | [], u, w, P, _, _, h => by simpa [-Re.bind, ↓bind_m, big, fnB, start0, endB, bors, Slot.lent, dLt, dGt, dGe, dLe, dAdd, dSub, dMul, dMod, dDiv, fInt, dIx, atI, fLen, dLen, fTuple, wipeE, restE, noMut, itemsD, dSl, ixN, shU] using h
  | a :: r, u, w, P, h, hw, hP => by
    obtain ⟨f, hw2⟩ := h a List.mem_cons_self
    have g0 := f.g0
    have e3 : 0 < w * a.g := Int.mul_pos hw (by omega)
    have e : 10 * (u * a.g + a.L * w) ≤ (P + a.p) * (w * a.g) := by
      have q1 : 10 * u * a.g ≤ P * w * a.g := Int.mul_le_mul_of_nonneg_right hP (by omega)
      have q2 : 10 * a.L * w ≤ a.p * a.g * w := Int.mul_le_mul_of_nonneg_right hw2 (by omega)
      have q3 : (P + a.p) * (w * a.g) = P * w * a.g + a.p * a.g * w := by
        rw [Int.add_mul, ← Int.mul_assoc, Int.mul_assoc a.p a.g w, Int.mul_comm a.g w]
      have q4 : 10 * (u * a.g + a.L * w) = 10 * u * a.g + 10 * a.L * w := by rw [Int.mul_add, Int.mul_assoc, Int.mul_assoc]
      omega
    have := shU_load r _ _ (P + a.p) (fun x hx => h x (List.mem_cons_of_mem _ hx)) e3 e
    simp only [shU, List.map_cons, List.sum_cons]
    rw [show P + (a.p + (r.map Ln.p).sum) = P + a.p + (r.map Ln.p).sum by omega]
    exact this
def gcdI (a b : Int) : Int := ((Nat.gcd a.natAbs b.natAbs : Nat) : Int)
theorem fGcd_eq (a b : Int) : fGcd [.int a, .int b] = some (.int (gcdI a b)) := rfl
/-- the load in lowest terms -/
def loadU (ls : List Ln) : Int := (shU ls 0 1).1 / gcdI (shU ls 0 1).1 (shU ls 0 1).2
def loadW (ls : List Ln) : Int := (shU ls 0 1).2 / gcdI (shU ls 0 1).1 (shU ls 0 1).2
def loadD (ls : List Ln) : D := .tup [.int (loadU ls), .int (loadW ls)]
theorem log_lt {n : Int} {k : Nat} (h : n < 2 ^ k) (h0 : 0 < n) : n.natAbs.log2 < k := by
  have : n.natAbs < 2 ^ k := by
    have e : ((2 ^ k : Nat) : Int) = (2 : Int) ^ k := by norm_cast
    omega
  exact (Nat.log2_lt (by omega)).mpr this
section
variable {ls : List Ln} (h : ∀ x ∈ ls, x.fine) (n : ls.length ≤ 10)
include h n
theorem gcd_ok : 0 < gcdI (shU ls 0 1).1 (shU ls 0 1).2 ∧ (gcdI (shU ls 0 1).1 (shU ls 0 1).2).natAbs.log2 < 9000 := by
  obtain ⟨p1, p2, p3⟩ := shU_pos ls 0 1 h (by decide) (by decide)
  have g0 : 0 < Nat.gcd (shU ls 0 1).1.natAbs (shU ls 0 1).2.natAbs := Nat.gcd_pos_of_pos_right _ (by omega)
  have g1 : Nat.gcd (shU ls 0 1).1.natAbs (shU ls 0 1).2.natAbs ≤ (shU ls 0 1).2.natAbs := Nat.gcd_le_right _ (by omega)
  have e : (1000 : Int) ^ ls.length ≤ 1000 ^ 10 := by
    have : (1000 : Nat) ^ ls.length ≤ 1000 ^ 10 := Nat.pow_le_pow_right (by decide) n
    have := Int.ofNat_le.mpr this
    simpa [-Re.bind, ↓bind_m, big, fnB, start0, endB, bors, Slot.lent, dLt, dGt, dGe, dLe, dAdd, dSub, dMul, dMod, dDiv, fInt, dIx, atI, fLen, dLen, fTuple, wipeE, restE, noMut, itemsD, dSl, ixN] using this
  refine ⟨by unfold gcdI; omega, Nat.lt_of_lt_of_le (log_lt (k := 200) ?_ (by unfold gcdI; omega)) (by decide)⟩
  have : (1000 : Int) ^ 10 < 2 ^ 200 := by decide
  unfold gcdI
  omega
theorem share_eq : m__share [] [.tup (ls.map Ln.d)] = .ok (loadD ls) [] := by
  obtain ⟨g0, g1⟩ := gcd_ok h n
  obtain ⟨s', e⟩ := share_loop (all := .tup (ls.map Ln.d)) ls 0 1 .no h (.inl rfl)
  simp [-Re.bind, ↓bind_m, big, fnB, start0, endB, bors, Slot.lent, dLt, dGt, dGe, dLe, dAdd, dSub, dMul, dMod, dDiv, fInt, dIx, atI, fLen, dLen, fTuple, wipeE, restE, noMut, itemsD, dSl, ixN, m__share, e, fGcd_eq, g0, g1, loadD, loadU, loadW]
theorem load_ok (hw : ∀ x ∈ ls, 10 * x.L ≤ x.p * x.g) (hp : (ls.map Ln.p).sum ≤ 9) : 10 * loadU ls ≤ 9 * loadW ls := by
  obtain ⟨g0, g1⟩ := gcd_ok h n
  obtain ⟨p1, p2, p3⟩ := shU_pos ls 0 1 h (by decide) (by decide)
  have l := shU_load ls 0 1 0 (fun x hx => ⟨h x hx, hw x hx⟩) (by decide) (by decide)
  have l2 : 10 * (shU ls 0 1).1 ≤ 9 * (shU ls 0 1).2 := Int.le_trans l (Int.mul_le_mul_of_nonneg_right (by omega) (by omega))
  have d1 : gcdI (shU ls 0 1).1 (shU ls 0 1).2 ∣ (shU ls 0 1).1 := Int.ofNat_dvd_left.mpr (Nat.gcd_dvd_left _ _)
  have d2 : gcdI (shU ls 0 1).1 (shU ls 0 1).2 ∣ (shU ls 0 1).2 := Int.ofNat_dvd_left.mpr (Nat.gcd_dvd_right _ _)
  have e1 := Int.mul_ediv_cancel' d1
  have e2 := Int.mul_ediv_cancel' d2
  unfold loadU loadW
  generalize gcdI (shU ls 0 1).1 (shU ls 0 1).2 = c at *
  generalize (shU ls 0 1).1 / c = a at *
  generalize (shU ls 0 1).2 / c = b at *
  rw [← e1, ← e2] at l2
  refine Int.le_of_mul_le_mul_left (a := c) ?_ g0
  rw [← Int.mul_assoc, ← Int.mul_assoc, Int.mul_comm c 10, Int.mul_comm c 9, Int.mul_assoc, Int.mul_assoc]
  exact l2
end
end Dw


set_option Elab.async false
set_option linter.all false
set_option maxRecDepth 100000
set_option maxHeartbeats 4000000
/-! the tasks of a class: rows, ceilings -/
namespace Dw
open PySem PySem.Spec PyProof.Rows L2 Gd Dx
theorem foldl_ins : ∀ (ks a : List Key), (a ++ ks).Nodup → ks.foldl insK a = a ++ ks
  | [], a, _ => by rw [List.append_nil]; rfl
  | k :: r, a, h => by
    have n : k ∉ a := fun z => by
      have := List.nodup_append.mp h
      exact this.2.2 k z k List.mem_cons_self rfl
    rw [List.foldl_cons, show insK a k = a ++ [k] by unfold insK; rw [if_neg n], foldl_ins r (a ++ [k]) (by rw [List.append_assoc]; exact h), List.append_assoc]
    rfl
theorem dedK_nodup {ks : List Key} (h : ks.Nodup) : dedK ks = ks := by
  unfold dedK
  rw [foldl_ins ks [] (by simpa [-Re.bind, ↓bind_m, big, fnB, start0, endB, bors, Slot.lent, dLt, dGt, dGe, dLe, dAdd, dSub, dMul, dMod, dDiv, fInt, dIx, atI, fLen, dLen, fTuple, wipeE, restE, noMut, itemsD, dSl, ixN] using h)]
  rfl
theorem keysOf_str : ∀ ns : List Str, keysOf (ns.map D.str) = some (ns.map Sum.inr)
  | [] => rfl
  | n :: r => by simp only [List.map_cons, keysOf, dKey, keysOf_str r]
/-- a comprehension, element by element -/
theorem lcL_of {α : Type} {t : GV} {c : BV} {e : EV} {vs : List Nat} {ρ : Ev} {g h : α → D} : ∀ xs : List α,
    (∀ x ∈ xs, ∃ ρ1 ρ2 ρ3, t (g x) ρ = .ok () ρ1 ∧ c ρ1 = .ok true ρ2 ∧ e ρ2 = .ok (h x) ρ3 ∧ wipeE ρ3 vs = ρ) → lcL t c e vs (xs.map g) ρ = .ok (xs.map h) ρ
  | [], _ => rfl
  | x :: r, hh => by
    obtain ⟨ρ1, ρ2, ρ3, h1, h2, h3, h4⟩ := hh x List.mem_cons_self
    simp only [List.map_cons, lcL, h1, h2, bind_ok, h3, h4, lcL_of r fun y hy => hh y (List.mem_cons_of_mem _ hy)]
theorem dcL_of {α : Type} {t : GV} {c : BV} {k e : EV} {vs : List Nat} {ρ : Ev} {g : α → D} {kk : α → Key} {h : α → D} : ∀ xs : List α,
    (∀ x ∈ xs, ∃ ρ1 ρ2 ρ3 ρ4 y, t (g x) ρ = .ok () ρ1 ∧ c ρ1 = .ok true ρ2 ∧ k ρ2 = .ok y ρ3 ∧ dKey y = some (kk x) ∧ e ρ3 = .ok (h x) ρ4 ∧ wipeE ρ4 vs = ρ) → dcL t c k e vs (xs.map g) ρ = .ok (xs.map fun x => (kk x, h x)) ρ
  | [], _ => rfl
  | x :: r, hh => by
    obtain ⟨ρ1, ρ2, ρ3, ρ4, y, h1, h2, h3, h4, h5, h6⟩ := hh x List.mem_cons_self
    simp only [List.map_cons, dcL, h1, h2, bind_ok, h3, h4, h5, h6, dcL_of r fun y hy => hh y (List.mem_cons_of_mem _ hy)]
theorem nodup_inr {ns : List Str} (h : ns.Nodup) : (ns.map (Sum.inr : Str → Key)).Nodup := by
  rw [List.Nodup, List.pairwise_map]
  exact h.imp fun hne e => hne (Sum.inr.inj e)
section
variable {ls : List Ln} (h : ∀ x ∈ ls, x.fine) (nd : (ls.map Ln.n).Nodup) (n : ls.length ≤ 10)
include h nd n
theorem check_rows_eq : m__check_rows [] [.tup (ls.map Ln.d)] = .ok .non [] := by
  have e1 : lcL (tName 1) bYes (eCall m_is_task (aCons (eV 1) aNil)) [1] (ls.map Ln.d) [.dat (.tup (ls.map Ln.d)), .no] = .ok (ls.map fun l => .bl true) [.dat (.tup (ls.map Ln.d)), .no] :=
    lcL_of ls fun l hl => ⟨[.dat (.tup (ls.map Ln.d)), .dat l.d], [.dat (.tup (ls.map Ln.d)), .dat l.d], [.dat (.tup (ls.map Ln.d)), .dat l.d], rfl, rfl, by simp [-Re.bind, ↓bind_m, big, fnB, start0, endB, bors, Slot.lent, dLt, dGt, dGe, dLe, dAdd, dSub, dMul, dMod, dDiv, fInt, dIx, atI, fLen, dLen, fTuple, wipeE, restE, noMut, itemsD, dSl, ixN, is_task_eq (h l hl).dt, (h l hl).task], rfl⟩
  have e2 : lcL (tName 1) bYes (eOp dIx (eV 1) (eC (.int 0))) [1] (ls.map Ln.d) [.dat (.tup (ls.map Ln.d)), .no] = .ok (ls.map fun l => .str l.n) [.dat (.tup (ls.map Ln.d)), .no] :=
    lcL_of ls fun l hl => ⟨[.dat (.tup (ls.map Ln.d)), .dat l.d], [.dat (.tup (ls.map Ln.d)), .dat l.d], [.dat (.tup (ls.map Ln.d)), .dat l.d], rfl, rfl, by simp [-Re.bind, ↓bind_m, big, fnB, start0, endB, bors, Slot.lent, dLt, dGt, dGe, dLe, dAdd, dSub, dMul, dMod, dDiv, fInt, dIx, atI, fLen, dLen, fTuple, wipeE, restE, noMut, itemsD, dSl, ixN, Ln.d], rfl⟩
  have e3 : fAll [.lst (ls.map fun _ => D.bl true)] = some (.bl true) := by
    have := fAll_map (fun _ => true) (ls.map Ln.d)
    rw [List.map_map] at this
    rw [show (ls.map fun _ => D.bl true) = ls.map ((fun d => D.bl ((fun _ => true) d)) ∘ Ln.d) from rfl, this]
    simp [-Re.bind, ↓bind_m, big, fnB, start0, endB, bors, Slot.lent, dLt, dGt, dGe, dLe, dAdd, dSub, dMul, dMod, dDiv, fInt, dIx, atI, fLen, dLen, fTuple, wipeE, restE, noMut, itemsD, dSl, ixN]
  have e5 : keysOf (ls.map fun l => D.str l.n) = some (ls.map fun l => (Sum.inr l.n : Key)) := by
    have := keysOf_str (ls.map Ln.n)
    rw [List.map_map, List.map_map] at this
    exact this
  have b1 : ls.length ≤ 1000000 := by omega
  have b2 : ls.length < 1000 := by omega
  have e6 : dedK (ls.map fun l => (Sum.inr l.n : Key)) = ls.map fun l => (Sum.inr l.n : Key) := by
    have := dedK_nodup (nodup_inr nd)
    rw [List.map_map] at this
    exact this
  rw [List.map_const'] at e1 e3
  simp [-Re.bind, ↓bind_m, big, fnB, start0, endB, bors, Slot.lent, dLt, dGt, dGe, dLe, dAdd, dSub, dMul, dMod, dDiv, fInt, dIx, atI, fLen, dLen, fTuple, wipeE, restE, noMut, itemsD, dSl, ixN, m__check_rows, e1, e2, e3, e5, b1, b2, e6]
end
/-! ### ceilings -/
def lockOf : D → Str
  | .tup [_, _, .str z] => z
  | _ => ""
def ceilL : List Ln → Nat → List (Key × D) → List (Key × D)
  | [], _, acc => acc
  | l :: r, i, acc => ceilL r (i + 1) (l.xs.foldl (fun a x => putKD a (.inr (lockOf x)) (.int i)) acc)
/-- keys are names -/
def NmK (ks : List (Key × D)) : Prop := ∀ p ∈ ks, ∃ z : Str, p.1 = .inr z ∧ nameB (.str z) = true
theorem NmK.put {ks : List (Key × D)} {z : Str} {d : D} (h : NmK ks) (hz : nameB (.str z) = true) : NmK (putKD ks (.inr z) d) := by
  intro p hp
  unfold putKD at hp
  split at hp
  · obtain ⟨q, hq, e⟩ := List.mem_map.mp hp
    obtain ⟨y, h1, h2⟩ := h q hq
    split at e
    · subst e; exact ⟨y, h1, h2⟩
    · subst e; exact ⟨y, h1, h2⟩
  · rcases List.mem_append.mp hp with hp | hp
    · exact h p hp
    · rw [List.mem_singleton.mp hp]; exact ⟨z, rfl, hz⟩
abbrev ceilIn : D → SV := bodyD (tTup 3 (tCons (tName 4) (tCons (tName 4) (tCons (tName 5) tNil)))) (sPutD 1 (eV 5) (eV 2))
abbrev ceilOut : D → SV := bodyD (tTup 2 (tCons (tName 2) (tCons (tName 3) tNil))) (sFor (iSeq (eOp dIx (eV 3) (eC (.int 5)))) (tTup 3 (tCons (tName 4) (tCons (tName 4) (tCons (tName 5) tNil)))) (sPutD 1 (eV 5) (eV 2)))
theorem ceil_in {all l : D} {i : Int} : ∀ (xs : List D) (acc : List (Key × D)) (s4 s5 : Slot), (∀ x ∈ xs, GoodY x) → NoDat s4 → NoDat s5 → acc.length + xs.length < 1000 → NmK acc →
    ∃ t4 t5, NoDat t4 ∧ NoDat t5 ∧ forD ceilIn xs [.dat all, .own (.dic acc), .dat (.int i), .dat l, s4, s5] = .ok .nx [.dat all, .own (.dic (xs.foldl (fun a x => putKD a (.inr (lockOf x)) (.int i)) acc)), .dat (.int i), .dat l, t4, t5] ∧
      NmK (xs.foldl (fun a x => putKD a (.inr (lockOf x)) (.int i)) acc) ∧ (xs.foldl (fun a x => putKD a (.inr (lockOf x)) (.int i)) acc).length ≤ acc.length + xs.length
  | [], acc, s4, s5, _, h4, h5, _, k => ⟨s4, s5, h4, h5, rfl, k, Nat.le_refl _⟩
  | x :: r, acc, s4, s5, hx, h4, h5, hb, k => by
    obtain ⟨b, e, z, rfl, hz⟩ := hx x List.mem_cons_self
    rw [List.length_cons] at hb
    have hl : acc.length < 1000000 := by omega
    have st : ceilIn (.tup [.int b, .int e, .str z]) [.dat all, .own (.dic acc), .dat (.int i), .dat l, s4, s5] = .ok .nx [.dat all, .own (.dic (putKD acc (.inr z) (.int i))), .dat (.int i), .dat l, .dat (.int e), .dat (.str z)] := by
      rcases h4 with rfl | ⟨_, rfl⟩ <;> rcases h5 with rfl | ⟨_, rfl⟩ <;> simp [-Re.bind, ↓bind_m, big, fnB, start0, endB, bors, Slot.lent, dLt, dGt, dGe, dLe, dAdd, dSub, dMul, dMod, dDiv, fInt, dIx, atI, fLen, dLen, fTuple, wipeE, restE, noMut, itemsD, dSl, ixN, isDicC, withC, dKey, hl]
    have l1 := putKD_len acc (.inr z) (.int i)
    obtain ⟨t4, t5, g4, g5, ih, k2, l2⟩ := ceil_in (all := all) (l := l) (i := i) r (putKD acc (.inr z) (.int i)) (.dat (.int e)) (.dat (.str z)) (fun y hy => hx y (List.mem_cons_of_mem _ hy)) (.inr ⟨_, rfl⟩) (.inr ⟨_, rfl⟩) (by omega) (k.put hz)
    refine ⟨t4, t5, g4, g5, ?_, k2, ?_⟩
    · simp only [forD, st, ih, List.foldl_cons, lockOf]
    · rw [List.foldl_cons, List.length_cons]; exact Nat.le_trans l2 (by omega)
theorem ceil_out {all : D} : ∀ (ls : List Ln) (i : Nat) (acc : List (Key × D)) (s2 s3 s4 s5 : Slot), (∀ x ∈ ls, x.fine ∧ x.xs.length ≤ 6) → NoDat s2 → NoDat s3 → NoDat s4 → NoDat s5 → acc.length + 6 * ls.length < 1000 → NmK acc →
    ∃ t2 t3 t4 t5, forD ceilOut (Dx.pairD ((List.range' i ls.length).map fun (j : Nat) => D.int j) (ls.map Ln.d)) [.dat all, .own (.dic acc), s2, s3, s4, s5] = .ok .nx [.dat all, .own (.dic (ceilL ls i acc)), t2, t3, t4, t5] ∧
      NoDat t4 ∧ NoDat t5 ∧ NoDat t2 ∧ NoDat t3 ∧ NmK (ceilL ls i acc) ∧ (ceilL ls i acc).length ≤ acc.length + 6 * ls.length
  | [], i, acc, s2, s3, s4, s5, _, h2, h3, h4, h5, _, k => ⟨s2, s3, s4, s5, rfl, h4, h5, h2, h3, k, Nat.le_refl _⟩
  | a :: r, i, acc, s2, s3, s4, s5, h, h2, h3, h4, h5, hb, k => by
    obtain ⟨f, l3⟩ := h a List.mem_cons_self
    rw [List.length_cons] at hb
    obtain ⟨t4, t5, g4, g5, e1, k1, l1⟩ := ceil_in (all := all) (l := a.d) (i := (i : Int)) a.xs acc s4 s5 f.x h4 h5 (by omega) k
    have st : ceilOut (.tup [.int (i : Int), a.d]) [.dat all, .own (.dic acc), s2, s3, s4, s5] = .ok .nx [.dat all, .own (.dic (a.xs.foldl (fun a x => putKD a (.inr (lockOf x)) (.int i)) acc)), .dat (.int i), .dat a.d, t4, t5] := by
      have e0 : eOp dIx (eV 3) (eC (.int 5)) [.dat all, .own (.dic acc), .dat (.int i), .dat a.d, s4, s5] = .ok (.tup a.xs) [.dat all, .own (.dic acc), .dat (.int i), .dat a.d, s4, s5] := by simp [-Re.bind, ↓bind_m, big, fnB, start0, endB, bors, Slot.lent, dLt, dGt, dGe, dLe, dAdd, dSub, dMul, dMod, dDiv, fInt, dIx, atI, fLen, dLen, fTuple, wipeE, restE, noMut, itemsD, dSl, ixN, Ln.d]
      rcases h2 with rfl | ⟨_, rfl⟩ <;> rcases h3 with rfl | ⟨_, rfl⟩ <;> simp [-Re.bind, ↓bind_m, big, fnB, start0, endB, bors, Slot.lent, dLt, dGt, dGe, dLe, dAdd, dSub, dMul, dMod, dDiv, fInt, dIx, atI, fLen, dLen, fTuple, wipeE, restE, noMut, itemsD, dSl, ixN, -eOp, e0, e1]
    obtain ⟨u2, u3, u4, u5, ih, a4, a5, a2, a3, k2, l2⟩ := ceil_out (all := all) r (i + 1) _ (.dat (.int i)) (.dat a.d) t4 t5 (fun x hx => h x (List.mem_cons_of_mem _ hx)) (.inr ⟨_, rfl⟩) (.inr ⟨_, rfl⟩) g4 g5 (by omega) k1
    refine ⟨u2, u3, u4, u5, ?_, a4, a5, a2, a3, k2, ?_⟩
    · simp only [List.length_cons, List.range'_succ, List.map_cons, Dx.pairD, List.zip_cons_cons, forD, st]
      exact ih
    · rw [List.length_cons]; exact Nat.le_trans l2 (by omega)
def txtK (ks : List (Key × D)) : List Str := ks.filterMap fun p => match p.1 with
  | .inr z => some z
  | .inl _ => none
theorem keyTxt_nm : ∀ {ks : List (Key × D)}, NmK ks → keyTxt ks = some (txtK ks)
  | [], _ => rfl
  | (k, d) :: r, h => by
    obtain ⟨z, e, _⟩ := h (k, d) List.mem_cons_self
    dsimp only at e
    subst e
    simp only [keyTxt, keyTxt_nm (fun p hp => h p (List.mem_cons_of_mem _ hp)), txtK, List.filterMap_cons, Option.map_some]
theorem txtK_mem {ks : List (Key × D)} {z : Str} : z ∈ txtK ks ↔ ∃ d, (Sum.inr z, d) ∈ ks := by
  unfold txtK
  rw [List.mem_filterMap]
  constructor
  · rintro ⟨⟨k, d⟩, hp, e⟩
    cases k with
    | inl i => cases e
    | inr y => cases e; exact ⟨d, hp⟩
  · rintro ⟨d, hp⟩
    exact ⟨_, hp, rfl⟩
theorem lkD_some {ks : List (Key × D)} {k : Key} (h : ∃ d, (k, d) ∈ ks) : ∃ d, lkD ks k = some d := by
  obtain ⟨d, hd⟩ := h
  unfold lkD
  cases e : ks.find? fun kv => decide (kv.1 = k) with
  | some p => exact ⟨p.2, rfl⟩
  | none =>
    have := List.find?_eq_none.mp e _ hd
    simp [-Re.bind, ↓bind_m, big, fnB, start0, endB, bors, Slot.lent, dLt, dGt, dGe, dLe, dAdd, dSub, dMul, dMod, dDiv, fInt, dIx, atI, fLen, dLen, fTuple, wipeE, restE, noMut, itemsD, dSl, ixN] at this
/-- the ceilings, ascending by name -/
def lockD (ls : List Ln) : List (Key × D) := mergeD [] ((isort ((txtK (ceilL ls 0 [])).map D.str)).map fun d => (.inr (unS d), (lkD (ceilL ls 0 []) (.inr (unS d))).getD .non))
theorem nameB_str {x : D} (h : nameB x = true) : ∃ z, x = .str z := nameB_inv h
section
variable {ls : List Ln} (h : ∀ x ∈ ls, x.fine ∧ x.xs.length ≤ 6) (n : ls.length ≤ 10)
include h n
theorem ceil_eq : m__ceilings [] [.tup (ls.map Ln.d)] = .ok (.dic (lockD ls)) [] := by
  obtain ⟨t2, t3, t4, t5, e1, h4, h5, h2, h3, k, l⟩ := ceil_out (all := .tup (ls.map Ln.d)) ls 0 [] .no .no .no .no h (.inl rfl) (.inl rfl) (.inl rfl) (.inl rfl) (by rw [List.length_nil]; omega) (fun _ z => nomatch z)
  have en : enumD (ls.map Ln.d) = Dx.pairD ((List.range' 0 ls.length).map fun (j : Nat) => D.int j) (ls.map Ln.d) := by
    unfold enumD
    rw [List.length_map, List.range_eq_range']
  rw [← en] at e1
  have kt := keyTxt_nm k
  have tl : (txtK (ceilL ls 0 [])).length ≤ (ceilL ls 0 []).length := by unfold txtK; exact List.length_filterMap_le _ _
  rw [List.length_nil, Nat.zero_add] at l
  have nm : ∀ z ∈ txtK (ceilL ls 0 []), nameB (.str z) = true := fun z hz => by
    obtain ⟨d, hd⟩ := txtK_mem.mp hz
    obtain ⟨y, e, hy⟩ := k _ hd
    cases e
    exact hy
  have b1 : (txtK (ceilL ls 0 [])).length < 64 ∧ ((txtK (ceilL ls 0 [])).all fun x => decide (x.length ≤ 1000000) && PyData.strOk x) = true := by
    refine ⟨by omega, List.all_eq_true.mpr fun z hz => ?_⟩
    have := name_len (nm z hz)
    simp only [Bool.and_eq_true, decide_eq_true_eq]
    exact ⟨by omega, this.2⟩
  have so : lSortedX [.dic (ceilL ls 0 [])] = some (isort ((txtK (ceilL ls 0 [])).map D.str)) := by
    simp only [lSortedX, kt, Option.bind_some]
    exact if_pos b1
  have il : (isort ((txtK (ceilL ls 0 [])).map D.str)).length ≤ 1000000 := by
    rw [(isort_perm _).length_eq, List.length_map]; omega
  have dc : ∀ (a b c e : Slot), dcL (tName 5) bYes (eV 5) (eDat 1 (eOp dIx (eV 1) (eV 5)) (eIxO 1 (eV 5))) [5] (isort ((txtK (ceilL ls 0 [])).map D.str)) [a, .dat (.dic (ceilL ls 0 [])), b, c, e, .no] =
      .ok ((isort ((txtK (ceilL ls 0 [])).map D.str)).map fun d => (.inr (unS d), (lkD (ceilL ls 0 []) (.inr (unS d))).getD .non)) [a, .dat (.dic (ceilL ls 0 [])), b, c, e, .no] := fun a b c e => by
    have := dcL_of (t := tName 5) (c := bYes) (k := eV 5) (e := eDat 1 (eOp dIx (eV 1) (eV 5)) (eIxO 1 (eV 5))) (vs := [5]) (ρ := [a, .dat (.dic (ceilL ls 0 [])), b, c, e, .no]) (g := id) (kk := fun d => .inr (unS d)) (h := fun d => (lkD (ceilL ls 0 []) (.inr (unS d))).getD .non)
      (isort ((txtK (ceilL ls 0 [])).map D.str)) fun d hd => ?_
    · simpa [-Re.bind, ↓bind_m, big, fnB, start0, endB, bors, Slot.lent, dLt, dGt, dGe, dLe, dAdd, dSub, dMul, dMod, dDiv, fInt, dIx, atI, fLen, dLen, fTuple, wipeE, restE, noMut, itemsD, dSl, ixN] using this
    · obtain ⟨z, hz, rfl⟩ := List.mem_map.mp ((isort_perm _).mem_iff.mp hd)
      obtain ⟨v, hv⟩ := lkD_some (txtK_mem.mp hz)
      exact ⟨[a, .dat (.dic (ceilL ls 0 [])), b, c, e, .dat (.str z)], [a, .dat (.dic (ceilL ls 0 [])), b, c, e, .dat (.str z)], [a, .dat (.dic (ceilL ls 0 [])), b, c, e, .dat (.str z)], [a, .dat (.dic (ceilL ls 0 [])), b, c, e, .dat (.str z)], .str z, rfl, rfl, rfl, rfl,
        by simp [-Re.bind, ↓bind_m, big, fnB, start0, endB, bors, Slot.lent, dLt, dGt, dGe, dLe, dAdd, dSub, dMul, dMod, dDiv, fInt, dIx, atI, fLen, dLen, fTuple, wipeE, restE, noMut, itemsD, dSl, ixN, dKey, unS, hv], rfl⟩
  rcases h5 with rfl | ⟨x5, rfl⟩ <;> simp [-Re.bind, ↓bind_m, big, fnB, start0, endB, bors, Slot.lent, dLt, dGt, dGe, dLe, dAdd, dSub, dMul, dMod, dDiv, fInt, dIx, atI, fLen, dLen, fTuple, wipeE, restE, noMut, itemsD, dSl, ixN, m__ceilings, e1, so, il, dc, lockD]
end
end Dw


set_option Elab.async false
set_option linter.all false
set_option maxRecDepth 100000
set_option maxHeartbeats 4000000
/-! the tasks of a class: made, asked -/
namespace Dw
open PySem PySem.Spec PyProof.Rows L2 Gd Dx
def urgL : List Str → Nat → List (Key × D)
  | [], _ => []
  | n :: r, i => (.inr n, .int i) :: urgL r (i + 1)
theorem urgL_keys : ∀ (ns : List Str) (i : Nat), (urgL ns i).map (·.1) = ns.map Sum.inr
  | [], _ => rfl
  | n :: r, i => by simp only [urgL, List.map_cons, urgL_keys r (i + 1)]
theorem urg_dc {a b c e : Slot} : ∀ (ns : List Str) (i : Nat), dcL (tTup 2 (tCons (tName 5) (tCons (tName 6) tNil))) bYes (eV 6) (eV 5) [5, 6] (Dx.pairD ((List.range' i ns.length).map fun (j : Nat) => D.int j) (ns.map D.str)) [a, b, c, e, .no, .no, .no] =
    .ok (urgL ns i) [a, b, c, e, .no, .no, .no]
  | [], _ => rfl
  | n :: r, i => by
    have ih := urg_dc (a := a) (b := b) (c := c) (e := e) r (i + 1)
    simp only [List.length_cons, List.range'_succ, List.map_cons, Dx.pairD, List.zip_cons_cons] at ih ⊢
    simp [-Re.bind, ↓bind_m, big, fnB, start0, endB, bors, Slot.lent, dLt, dGt, dGe, dLe, dAdd, dSub, dMul, dMod, dDiv, fInt, dIx, atI, fLen, dLen, fTuple, wipeE, restE, noMut, itemsD, dSl, ixN, dcL, dKey, urgL, ih]
theorem mergeD_new : ∀ (more ks : List (Key × D)), ((ks ++ more).map (·.1)).Nodup → mergeD ks more = ks ++ more
  | [], ks, _ => by simp [-Re.bind, ↓bind_m, big, fnB, start0, endB, bors, Slot.lent, dLt, dGt, dGe, dLe, dAdd, dSub, dMul, dMod, dDiv, fInt, dIx, atI, fLen, dLen, fTuple, wipeE, restE, noMut, itemsD, dSl, ixN, mergeD]
  | (k, d) :: r, ks, h => by
    have hn : ∀ p ∈ ks, p.1 ≠ k := fun p hp e => by
      rw [List.map_append, List.nodup_append] at h
      exact h.2.2 p.1 (List.mem_map.mpr ⟨p, hp, rfl⟩) k (by simp [-Re.bind, ↓bind_m, big, fnB, start0, endB, bors, Slot.lent, dLt, dGt, dGe, dLe, dAdd, dSub, dMul, dMod, dDiv, fInt, dIx, atI, fLen, dLen, fTuple, wipeE, restE, noMut, itemsD, dSl, ixN]) e
    have hp : putKD ks k d = ks ++ [(k, d)] := by
      unfold putKD
      rw [if_neg]
      simp only [List.any_eq_true, decide_eq_true_eq, not_exists, not_and]
      exact hn
    have := mergeD_new r (ks ++ [(k, d)]) (by rw [List.append_assoc]; exact h)
    unfold mergeD at this ⊢
    rw [List.foldl_cons, hp, this, List.append_assoc]
    rfl
theorem urg_merge {ns : List Str} (h : ns.Nodup) : mergeD [] (urgL ns 0) = urgL ns 0 := by
  have := mergeD_new (urgL ns 0) [] (by rw [List.nil_append, urgL_keys]; exact nodup_inr h)
  simpa [-Re.bind, ↓bind_m, big, fnB, start0, endB, bors, Slot.lent, dLt, dGt, dGe, dLe, dAdd, dSub, dMul, dMod, dDiv, fInt, dIx, atI, fLen, dLen, fTuple, wipeE, restE, noMut, itemsD, dSl, ixN] using this
/-- the instance -/
def tasksF (ls : List Ln) : List (Str × D) := [("_tasks", .tup (ls.map Ln.d)), ("_names", .tup (ls.map fun l => .str l.n)), ("_urgencies", .dic (urgL (ls.map Ln.n) 0)), ("_load", loadD ls), ("_locks", .dic (lockD ls))]
def tasksO (ls : List Ln) : D := .obj "Tasks" (tasksF ls)
/-- tasks that can stand together -/
structure TsOk (ls : List Ln) : Prop where
  f : ∀ x ∈ ls, x.fine ∧ x.xs.length ≤ 6
  nd : (ls.map Ln.n).Nodup
  n : ls.length ≤ 10
  ld : 10 * loadU ls ≤ 9 * loadW ls
section
variable {ls : List Ln} (h : TsOk ls)
include h
theorem new_eq : m_new_Tasks [.ins "Tasks" []] (ls.map Ln.d) = .ok .non [.ins "Tasks" (tasksF ls)] := by
  have f := fun x hx => (h.f x hx).1
  have e1 := check_rows_eq f h.nd h.n
  have e2 := share_eq f h.n
  have e3 := ceil_eq h.f h.n
  have n := h.n
  have b1 : ls.length ≤ 1000000 := by omega
  have b2 : ¬ (10 : Int) < ls.length := by omega
  have k1 : okMul 10 (loadU ls) = true := okMul_t (by decide)
  have k2 : okMul 9 (loadW ls) = true := okMul_t (by decide)
  have ld : ¬ 9 * loadW ls < 10 * loadU ls := by have := h.ld; omega
  have e4 : ∀ a b c e : Slot, lcL (tName 4) bYes (eOp dIx (eV 4) (eC (.int 0))) [4] (ls.map Ln.d) [a, b, c, e, .no, .no, .no] = .ok (ls.map fun l => .str l.n) [a, b, c, e, .no, .no, .no] := fun a b c e =>
    lcL_of ls fun l hl => ⟨[a, b, c, e, .dat l.d, .no, .no], [a, b, c, e, .dat l.d, .no, .no], [a, b, c, e, .dat l.d, .no, .no], rfl, rfl, by simp [-Re.bind, ↓bind_m, big, fnB, start0, endB, bors, Slot.lent, dLt, dGt, dGe, dLe, dAdd, dSub, dMul, dMod, dDiv, fInt, dIx, atI, fLen, dLen, fTuple, wipeE, restE, noMut, itemsD, dSl, ixN, Ln.d], rfl⟩
  have en : enumD (ls.map fun l => D.str l.n) = Dx.pairD ((List.range' 0 (ls.map Ln.n).length).map fun (j : Nat) => D.int j) ((ls.map Ln.n).map D.str) := by
    unfold enumD
    rw [List.length_map, List.length_map, List.range_eq_range', List.map_map]
    rfl
  have e5 := fun a b c e => urg_dc (a := a) (b := b) (c := c) (e := e) (ls.map Ln.n) 0
  simp only [← en] at e5
  have el : (enumD (ls.map fun l => D.str l.n)).length = ls.length := by rw [en]; simp [-Re.bind, ↓bind_m, big, fnB, start0, endB, bors, Slot.lent, dLt, dGt, dGe, dLe, dAdd, dSub, dMul, dMod, dDiv, fInt, dIx, atI, fLen, dLen, fTuple, wipeE, restE, noMut, itemsD, dSl, ixN, Dx.pairD]
  have e6 := urg_merge h.nd
  simp only [loadD] at e2
  simp [-Re.bind, ↓bind_m, big, fnB, start0, endB, bors, Slot.lent, dLt, dGt, dGe, dLe, dAdd, dSub, dMul, dMod, dDiv, fInt, dIx, atI, fLen, dLen, fTuple, wipeE, restE, noMut, itemsD, dSl, ixN, m_new_Tasks, m_Tasks___init__, e1, e2, e3, e4, e5, e6, el, b1, b2, k1, k2, ld, noC, withC, putFD, tasksF, loadD, ofS, ofSb, lkS]
end
end Dw


set_option Elab.async false
set_option linter.all false
set_option maxRecDepth 100000
set_option maxHeartbeats 4000000
/-! the tasks of a class: asked -/
namespace Dw
open PySem PySem.Spec PyProof.Rows L2 Gd Dx
theorem pl_linesF {ls : List Ln} (h : ∀ l ∈ ls, l.fine) (n : Nat) : Dx.pl (n + 5) (.tup (ls.map Ln.d)) = true := by
  have := plL_of (n := n + 4) (xs := ls.map Ln.d) fun x hx => by
    obtain ⟨l, hl, rfl⟩ := List.mem_map.mp hx
    exact (h l hl).pl n
  simpa only [Dx.pl] using this
section
variable {ls : List Ln} (h : TsOk ls)
include h
theorem of_eq : m_Tasks_of [] [.cls "Tasks", .tup (ls.map Ln.d)] = .ok (tasksO ls) [] := by
  have e := new_eq h
  simp [-Re.bind, ↓bind_m, big, fnB, start0, endB, bors, Slot.lent, dLt, dGt, dGe, dLe, dAdd, dSub, dMul, dMod, dDiv, fInt, dIx, atI, fLen, dLen, fTuple, wipeE, restE, noMut, itemsD, dSl, ixN, m_Tasks_of, fIsi, tyD, isB, e, tasksO, Cell.frz, ofS, ofSb, lkS, aStar]
end
theorem tasks_eq (ls : List Ln) : m_Tasks_tasks [] [tasksO ls] = .ok (.tup (ls.map Ln.d)) [] := by
  simp [-Re.bind, ↓bind_m, big, fnB, start0, endB, bors, Slot.lent, dLt, dGt, dGe, dLe, dAdd, dSub, dMul, dMod, dDiv, fInt, dIx, atI, fLen, dLen, fTuple, wipeE, restE, noMut, itemsD, dSl, ixN, m_Tasks_tasks, tasksO, tasksF, ofS, ofSb, lkS]
theorem urg_find : ∀ (ns : List Str) (i : Nat) (k : Key), (∀ z ∈ ns, k ≠ .inr z) → lkD (urgL ns i) k = none
  | [], _, _, _ => rfl
  | n :: r, i, k, h => by
    have := urg_find r (i + 1) k fun z hz => h z (List.mem_cons_of_mem _ hz)
    unfold lkD at this ⊢
    rw [urgL, List.find?_cons]
    have hn : ¬ (Sum.inr n : Key) = k := fun e => h n List.mem_cons_self e.symm
    simp only [hn, decide_false]
    exact this
theorem urg_at : ∀ (ns : List Str) (i j : Nat) (z : Str), ns.Nodup → ns[j]? = some z → lkD (urgL ns i) (.inr z) = some (.int ((i + j : Nat) : Int))
  | [], _, _, _, _, h => by simp [-Re.bind, ↓bind_m, big, fnB, start0, endB, bors, Slot.lent, dLt, dGt, dGe, dLe, dAdd, dSub, dMul, dMod, dDiv, fInt, dIx, atI, fLen, dLen, fTuple, wipeE, restE, noMut, itemsD, dSl, ixN] at h
  | n :: r, i, 0, z, _, h => by
    simp [-Re.bind, ↓bind_m, big, fnB, start0, endB, bors, Slot.lent, dLt, dGt, dGe, dLe, dAdd, dSub, dMul, dMod, dDiv, fInt, dIx, atI, fLen, dLen, fTuple, wipeE, restE, noMut, itemsD, dSl, ixN] at h
    subst h
    simp [-Re.bind, ↓bind_m, big, fnB, start0, endB, bors, Slot.lent, dLt, dGt, dGe, dLe, dAdd, dSub, dMul, dMod, dDiv, fInt, dIx, atI, fLen, dLen, fTuple, wipeE, restE, noMut, itemsD, dSl, ixN, lkD, urgL]
  | n :: r, i, j + 1, z, nd, h => by
    obtain ⟨h1, h2⟩ := List.nodup_cons.mp nd
    have hz : r[j]? = some z := by simpa [-Re.bind, ↓bind_m, big, fnB, start0, endB, bors, Slot.lent, dLt, dGt, dGe, dLe, dAdd, dSub, dMul, dMod, dDiv, fInt, dIx, atI, fLen, dLen, fTuple, wipeE, restE, noMut, itemsD, dSl, ixN] using h
    have := urg_at r (i + 1) j z h2 hz
    have ne : ¬ n = z := fun e => h1 (e ▸ List.mem_of_getElem? hz)
    unfold lkD at this ⊢
    rw [urgL, List.find?_cons]
    have hn : ¬ (Sum.inr n : Key) = Sum.inr z := fun e => ne (Sum.inr.inj e)
    simp only [hn, decide_false]
    rw [this, show i + 1 + j = i + (j + 1) by omega]
section
variable {ls : List Ln} (h : TsOk ls)
include h
/-- the j-th task's name -/
theorem contains_at {j : Nat} {l : Ln} (hj : ls[j]? = some l) : m_Tasks___contains__ [] [tasksO ls, .str l.n] = .ok (.bl true) [] := by
  have := urg_at (ls.map Ln.n) 0 j l.n h.nd (by rw [List.getElem?_map, hj]; rfl)
  simp [-Re.bind, ↓bind_m, big, fnB, start0, endB, bors, Slot.lent, dLt, dGt, dGe, dLe, dAdd, dSub, dMul, dMod, dDiv, fInt, dIx, atI, fLen, dLen, fTuple, wipeE, restE, noMut, itemsD, dSl, ixN, m_Tasks___contains__, tasksO, tasksF, ofS, ofSb, lkS, fIsi, tyD, isB, dIn, dKey, this]
theorem urgency_at {j : Nat} {l : Ln} (hj : ls[j]? = some l) : m_Tasks_urgency [] [tasksO ls, .str l.n] = .ok (.int (j : Int)) [] := by
  have := urg_at (ls.map Ln.n) 0 j l.n h.nd (by rw [List.getElem?_map, hj]; rfl)
  have c := contains_at h hj
  simp only [tasksO] at c
  simp [-Re.bind, ↓bind_m, big, fnB, start0, endB, bors, Slot.lent, dLt, dGt, dGe, dLe, dAdd, dSub, dMul, dMod, dDiv, fInt, dIx, atI, fLen, dLen, fTuple, wipeE, restE, noMut, itemsD, dSl, ixN, m_Tasks_urgency, tasksO, dInU, c, List.lookup]
  simp [-Re.bind, ↓bind_m, big, fnB, start0, endB, bors, Slot.lent, dLt, dGt, dGe, dLe, dAdd, dSub, dMul, dMod, dDiv, fInt, dIx, atI, fLen, dLen, fTuple, wipeE, restE, noMut, itemsD, dSl, ixN, tasksF, ofS, ofSb, lkS, dKey, this]
end
theorem check_tasks_eq (ls : List Ln) : m_check_tasks [] [tasksO ls] = .ok .non [] := by
  simp [-Re.bind, ↓bind_m, big, fnB, start0, endB, bors, Slot.lent, dLt, dGt, dGe, dLe, dAdd, dSub, dMul, dMod, dDiv, fInt, dIx, atI, fLen, dLen, fTuple, wipeE, restE, noMut, itemsD, dSl, ixN, m_check_tasks, tasksO, fIsiO]
end Dw


set_option Elab.async false
set_option linter.all false
set_option maxRecDepth 100000
set_option maxHeartbeats 4000000
/-! dicts by key -/
namespace Dw
open PySem PySem.Spec PyProof.Rows L2 Gd Dx
theorem lkD_nil (k : Key) : lkD [] k = none := rfl
theorem lkD_cons (p : Key × D) (ks : List (Key × D)) (k : Key) : lkD (p :: ks) k = if p.1 = k then some p.2 else lkD ks k := by
  unfold lkD
  rw [List.find?_cons]
  by_cases h : p.1 = k <;> simp [h]
theorem lkD_map (ks : List (Key × D)) (k : Key) (d : D) (k' : Key) : lkD (ks.map fun kv => if kv.1 = k then (kv.1, d) else kv) k' = if k' = k then (if (ks.any fun kv => decide (kv.1 = k)) = true then some d else none) else lkD ks k' := by
  induction ks with
  | nil => simp [lkD_nil]
  | cons p r ih =>
    rw [List.map_cons, lkD_cons, lkD_cons, ih, List.any_cons]
    by_cases h : p.1 = k
    · by_cases h2 : k' = k
      · subst h2; simp [h]
      · have : ¬ k = k' := fun e => h2 e.symm
        simp [h, h2, this]
    · rw [decide_eq_false h, Bool.false_or]
      by_cases h2 : k' = k
      · subst h2; simp [h]
      · simp [h, h2]
theorem lkD_app (a b : List (Key × D)) (k : Key) : lkD (a ++ b) k = match lkD a k with
    | some d => some d
    | none => lkD b k := by
  induction a with
  | nil => simp [lkD_nil]
  | cons p r ih =>
    rw [List.cons_append, lkD_cons, lkD_cons, ih]
    by_cases h : p.1 = k <;> simp [h]
theorem lkD_any {ks : List (Key × D)} {k : Key} (h : ¬ (ks.any fun kv => decide (kv.1 = k)) = true) : lkD ks k = none := by
  induction ks with
  | nil => rfl
  | cons p r ih =>
    rw [List.any_cons, Bool.or_eq_true, not_or, decide_eq_true_eq] at h
    rw [lkD_cons, if_neg h.1, ih h.2]
/-- a dict behind a store, by key -/
theorem lkD_put (ks : List (Key × D)) (k : Key) (d : D) (k' : Key) : lkD (putKD ks k d) k' = if k' = k then some d else lkD ks k' := by
  unfold putKD
  by_cases h : (ks.any fun kv => decide (kv.1 = k)) = true
  · rw [if_pos h, lkD_map, if_pos h]
  · rw [if_neg h, lkD_app]
    by_cases h2 : k' = k
    · subst h2; rw [lkD_any h]; simp [lkD_cons]
    · have : ¬ k = k' := fun e => h2 e.symm
      rw [if_neg h2]
      cases lkD ks k' <;> simp [lkD_cons, lkD_nil, this]
theorem put_keys (ks : List (Key × D)) (k : Key) (d : D) : (putKD ks k d).map (·.1) = if k ∈ ks.map (·.1) then ks.map (·.1) else ks.map (·.1) ++ [k] := by
  have e : ((ks.any fun kv => decide (kv.1 = k)) = true) ↔ k ∈ ks.map (·.1) := by
    rw [List.any_eq_true, List.mem_map]
    constructor
    · rintro ⟨p, h, e⟩; exact ⟨p, h, of_decide_eq_true e⟩
    · rintro ⟨p, h, e⟩; exact ⟨p, h, decide_eq_true e⟩
  unfold putKD
  by_cases h : k ∈ ks.map (·.1)
  · rw [if_pos (e.mpr h), if_pos h, List.map_map]
    refine List.map_congr_left fun p _ => ?_
    show (if p.1 = k then (p.1, d) else p).1 = p.1
    split <;> rfl
  · rw [if_neg (fun z => h (e.mp z)), if_neg h, List.map_append]; rfl
theorem put_nodup {ks : List (Key × D)} (h : (ks.map (·.1)).Nodup) (k : Key) (d : D) : ((putKD ks k d).map (·.1)).Nodup := by
  rw [put_keys]
  split
  · exact h
  · rename_i z
    exact List.nodup_append.mpr ⟨h, List.nodup_cons.mpr ⟨List.not_mem_nil, List.nodup_nil⟩, fun a ha b hb e => z (by rw [List.mem_singleton] at hb; rw [← hb, ← e]; exact ha)⟩
theorem mem_lkD {ks : List (Key × D)} (h : (ks.map (·.1)).Nodup) {k : Key} {d : D} : (k, d) ∈ ks ↔ lkD ks k = some d := by
  induction ks with
  | nil => simp [lkD_nil]
  | cons p r ih =>
    rw [List.map_cons, List.nodup_cons] at h
    rw [List.mem_cons, lkD_cons, ih h.2]
    by_cases e : p.1 = k
    · rw [if_pos e]
      constructor
      · rintro (z | z)
        · rw [← z]
        · exact absurd (List.mem_map.mpr ⟨(k, d), (ih h.2).mpr z, rfl⟩) (e ▸ h.1)
      · intro z
        cases z
        exact .inl (by rw [← e])
    · rw [if_neg e]
      constructor
      · rintro (z | z)
        · exact absurd (by rw [← z]) e
        · exact z
      · exact .inr
/-- keys, sorted, each with its value -/
def srtD (ks : List (Key × D)) : List (Key × D) := mergeD [] ((isort ((txtK ks).map D.str)).map fun d => (.inr (unS d), (lkD ks (.inr (unS d))).getD .non))
section
variable {ks : List (Key × D)} (nm : NmK ks) (nd : (ks.map (·.1)).Nodup)
include nm
theorem txtK_keys : (txtK ks).map (Sum.inr : Str → Key) = ks.map (·.1) := by
  induction ks with
  | nil => rfl
  | cons p r ih =>
    obtain ⟨z, e, _⟩ := nm p List.mem_cons_self
    obtain ⟨k, d⟩ := p
    dsimp only at e
    subst e
    have := ih fun q hq => nm q (List.mem_cons_of_mem _ hq)
    unfold txtK at this ⊢
    rw [List.filterMap_cons]
    simp only [List.map_cons, this]
include nd
theorem txtK_nodup : (txtK ks).Nodup := by
  have := txtK_keys nm
  rw [← this] at nd
  exact (List.pairwise_map.mp nd).imp fun h e => h (by rw [e])
theorem srtD_eq : ∃ ns : List Str, ns.Perm (txtK ks) ∧ srtD ks = ns.map fun z => (.inr z, (lkD ks (.inr z)).getD .non) := by
  obtain ⟨ns, e, p⟩ := perm_map (isort_perm ((txtK ks).map D.str))
  refine ⟨ns, p, ?_⟩
  have nn : ns.Nodup := p.nodup_iff.mpr (txtK_nodup nm nd)
  unfold srtD
  rw [e, List.map_map]
  rw [mergeD_new _ [] ?_, List.nil_append]
  · rfl
  · rw [List.nil_append, List.map_map]
    exact List.pairwise_map.mpr (nn.imp fun h e => h (by simpa [unS] using e))
theorem srtD_nodup : ((srtD ks).map (·.1)).Nodup := by
  obtain ⟨ns, p, e⟩ := srtD_eq nm nd
  rw [e, List.map_map]
  exact List.pairwise_map.mpr ((p.nodup_iff.mpr (txtK_nodup nm nd)).imp fun h e => h (by simpa using e))
theorem srtD_mem {k : Key} {d : D} : (k, d) ∈ srtD ks ↔ (k, d) ∈ ks := by
  obtain ⟨ns, p, e⟩ := srtD_eq nm nd
  rw [e, List.mem_map]
  constructor
  · rintro ⟨z, hz, e⟩
    cases e
    obtain ⟨d, hd⟩ := txtK_mem.mp (p.mem_iff.mp hz)
    rw [(mem_lkD nd).mp hd]
    exact hd
  · intro h
    obtain ⟨z, e, _⟩ := nm _ h
    dsimp only at e
    subst e
    exact ⟨z, p.mem_iff.mpr (txtK_mem.mpr ⟨d, h⟩), by rw [(mem_lkD nd).mp h]; rfl⟩
theorem srtD_lk (k : Key) : lkD (srtD ks) k = lkD ks k := by
  have a := @srtD_mem ks nm nd k
  cases h : lkD ks k with
  | some d => exact (mem_lkD (srtD_nodup nm nd)).mp (a.mpr ((mem_lkD nd).mpr h))
  | none =>
    cases h2 : lkD (srtD ks) k with
    | none => rfl
    | some d => rw [(mem_lkD nd).mp (a.mp ((mem_lkD (srtD_nodup nm nd)).mpr h2))] at h; cases h
theorem srtD_len : (srtD ks).length = ks.length := by
  obtain ⟨ns, p, e⟩ := srtD_eq nm nd
  have := congrArg List.length (txtK_keys nm)
  rw [e, List.length_map, p.length_eq]
  simpa using this
end
end Dw


set_option Elab.async false
set_option linter.all false
set_option maxRecDepth 100000
set_option maxHeartbeats 4000000
/-! lengths of sections -/
namespace Dw
open PySem PySem.Spec PyProof.Rows L2 Gd Dx
def secLen : D → Int
  | .tup [.int b, .int e, _] => e - b
  | _ => 0
/-- the longest section of a lock, at least m -/
def mxF (z : Str) : List D → Int → Int
  | [], m => m
  | x :: r, m => mxF z r (if lockOf x = z then (if m > secLen x then m else secLen x) else m)
theorem mxF_ge (z : Str) : ∀ (xs : List D) (m : Int), m ≤ mxF z xs m
  | [], m => Int.le_refl _
  | x :: r, m => by
    have st : m ≤ (if lockOf x = z then (if m > secLen x then m else secLen x) else m) := by
      by_cases e : lockOf x = z
      · rw [if_pos e]; split <;> omega
      · rw [if_neg e]; omega
    exact Int.le_trans st (mxF_ge z r _)
theorem mxF_mem (z : Str) : ∀ (xs : List D) (m : Int) (x : D), x ∈ xs → lockOf x = z → secLen x ≤ mxF z xs m
  | y :: r, m, x, h, e => by
    simp only [mxF]
    rcases List.mem_cons.mp h with rfl | h
    · rw [if_pos e]
      have st : secLen x ≤ (if m > secLen x then m else secLen x) := by split <;> omega
      exact Int.le_trans st (mxF_ge z r _)
    · exact mxF_mem z r _ x h e
theorem mxF_at (z : Str) : ∀ (xs : List D) (m : Int), mxF z xs m = m ∨ ∃ x ∈ xs, lockOf x = z ∧ secLen x = mxF z xs m
  | [], m => .inl rfl
  | y :: r, m => by
    simp only [mxF]
    rcases mxF_at z r (if lockOf y = z then (if m > secLen y then m else secLen y) else m) with h | ⟨x, hx, e, h⟩
    · by_cases e : lockOf y = z
      · rw [if_pos e] at h ⊢
        by_cases g : m > secLen y
        · rw [if_pos g] at h ⊢; exact .inl h
        · rw [if_neg g] at h ⊢; exact .inr ⟨y, List.mem_cons_self, e, h.symm⟩
      · rw [if_neg e] at h ⊢; exact .inl h
    · exact .inr ⟨x, List.mem_cons_of_mem _ hx, e, h⟩
def getI (ks : List (Key × D)) (z : Str) : Int := match lkD ks (.inr z) with
  | some (.int i) => i
  | _ => 0
def lenP (a : List (Key × D)) (x : D) : List (Key × D) := putKD a (.inr (lockOf x)) (.int (if getI a (lockOf x) > secLen x then getI a (lockOf x) else secLen x))
def lenD (xs : List D) : List (Key × D) := xs.foldl lenP []
/-- values are numbers -/
def IntK (ks : List (Key × D)) : Prop := ∀ k d, lkD ks k = some d → ∃ i, d = .int i
structure LenOk (a : List (Key × D)) : Prop where
  n : NmK a
  i : IntK a
  d : (a.map (·.1)).Nodup
theorem LenOk.nil : LenOk [] := ⟨(fun _ z => nomatch z), fun k d z => (by rw [lkD_nil] at z; cases z), List.nodup_nil⟩
theorem LenOk.put {a : List (Key × D)} (h : LenOk a) {x : D} (hx : GoodY x) : LenOk (lenP a x) := by
  obtain ⟨b, e, z, rfl, hz⟩ := hx
  refine ⟨h.n.put hz, fun k d hk => ?_, put_nodup h.d _ _⟩
  unfold lenP at hk
  rw [lkD_put] at hk
  split at hk
  · cases hk; exact ⟨_, rfl⟩
  · exact h.i k d hk
theorem lenP_len (a : List (Key × D)) (x : D) : (lenP a x).length ≤ a.length + 1 := putKD_len _ _ _
theorem getI_put {a : List (Key × D)} {x : D} (z : Str) : getI (lenP a x) z = if lockOf x = z then (if getI a z > secLen x then getI a z else secLen x) else getI a z := by
  unfold getI lenP
  rw [lkD_put]
  by_cases h : lockOf x = z
  · rw [if_pos h, if_pos (by rw [h])]
    rw [h]
    rfl
  · rw [if_neg h, if_neg fun e => h (by cases e; rfl)]
theorem getI_fold (z : Str) : ∀ (xs : List D) (a : List (Key × D)), getI (xs.foldl lenP a) z = mxF z xs (getI a z)
  | [], _ => rfl
  | x :: r, a => by rw [List.foldl_cons, getI_fold z r, getI_put]; rfl
theorem lk_fold (z : Str) : ∀ (xs : List D) (a : List (Key × D)), (lkD (xs.foldl lenP a) (.inr z)).isSome = (decide (∃ x ∈ xs, lockOf x = z) || (lkD a (.inr z)).isSome)
  | [], _ => by simp [-Re.bind, ↓bind_m, big, fnB, start0, endB, bors, Slot.lent, dLt, dGt, dGe, dLe, dAdd, dSub, dMul, dMod, dDiv, dNeg, fInt, dIx, atI, fLen, dLen, fTuple, wipeE, restE, noMut, itemsD, dSl, ixN]
  | x :: r, a => by
    rw [List.foldl_cons, lk_fold z r]
    unfold lenP
    rw [lkD_put]
    by_cases h : lockOf x = z
    · rw [if_pos (by rw [h])]; simp [-Re.bind, ↓bind_m, big, fnB, start0, endB, bors, Slot.lent, dLt, dGt, dGe, dLe, dAdd, dSub, dMul, dMod, dDiv, dNeg, fInt, dIx, atI, fLen, dLen, fTuple, wipeE, restE, noMut, itemsD, dSl, ixN, h]
    · rw [if_neg fun e => h (by cases e; rfl)]; simp [-Re.bind, ↓bind_m, big, fnB, start0, endB, bors, Slot.lent, dLt, dGt, dGe, dLe, dAdd, dSub, dMul, dMod, dDiv, dNeg, fInt, dIx, atI, fLen, dLen, fTuple, wipeE, restE, noMut, itemsD, dSl, ixN, h]
abbrev lenB : D → SV := bodyD (tTup 3 (tCons (tName 2) (tCons (tName 3) (tCons (tName 4) tNil)))) (sPutD 1 (eV 4) (eBi fMax (aCons (eOp dSub (eV 3) (eV 2)) (aCons (eDat 1 (eGet2 (eV 1) (eV 4) (eC (.int 0))) (eGetO2 1 (eV 4) (eC (.int 0)))) aNil))))
theorem getD_int {a : List (Key × D)} (h : LenOk a) (z : Str) : (lkD a (.inr z)).getD (.int 0) = .int (getI a z) := by
  unfold getI
  cases e : lkD a (.inr z) with
  | none => rfl
  | some d => obtain ⟨i, rfl⟩ := h.i _ _ e; rfl
theorem len_loop {all : D} : ∀ (xs : List D) (acc : List (Key × D)) (s2 s3 s4 : Slot), (∀ x ∈ xs, GoodY x) → ((s2 = .no ∧ s3 = .no ∧ s4 = .no) ∨ ∃ a b c, s2 = .dat a ∧ s3 = .dat b ∧ s4 = .dat c) → acc.length + xs.length < 1000 → LenOk acc →
    ∃ t2 t3 t4, NoDat t4 ∧ forD lenB xs [.dat all, .own (.dic acc), s2, s3, s4] = .ok .nx [.dat all, .own (.dic (xs.foldl lenP acc)), t2, t3, t4] ∧ LenOk (xs.foldl lenP acc) ∧ (xs.foldl lenP acc).length ≤ acc.length + xs.length
  | [], acc, s2, s3, s4, _, hs, _, k => ⟨s2, s3, s4, by rcases hs with ⟨_, _, h⟩ | ⟨_, _, c, _, _, h⟩; exact h ▸ .no; exact h ▸ .dat c, rfl, k, Nat.le_refl _⟩
  | x :: r, acc, s2, s3, s4, hx, hs, hb, k => by
    have k2 := k.put (hx x List.mem_cons_self)
    have l1 := lenP_len acc x
    obtain ⟨b, e, z, rfl, hz⟩ := hx x List.mem_cons_self
    rw [List.length_cons] at hb
    have hl : acc.length < 1000000 := by omega
    have g := getD_int k z
    have st : lenB (.tup [.int b, .int e, .str z]) [.dat all, .own (.dic acc), s2, s3, s4] = .ok .nx [.dat all, .own (.dic (lenP acc (.tup [.int b, .int e, .str z]))), .dat (.int b), .dat (.int e), .dat (.str z)] := by
      have fm : fMax [.int (e - b), .int (getI acc z)] = some (.int (if getI acc z > e - b then getI acc z else e - b)) := rfl
      rcases hs with ⟨rfl, rfl, rfl⟩ | ⟨_, _, _, rfl, rfl, rfl⟩ <;> simp [-Re.bind, ↓bind_m, big, fnB, start0, endB, bors, Slot.lent, dLt, dGt, dGe, dLe, dAdd, dSub, dMul, dMod, dDiv, dNeg, fInt, dIx, atI, fLen, dLen, fTuple, wipeE, restE, noMut, itemsD, dSl, ixN, isDicC, withC, dKey, hl, g, fm, lenP, lockOf, secLen]
    obtain ⟨t2, t3, t4, g4, ih, k3, l2⟩ := len_loop (all := all) r _ (.dat (.int b)) (.dat (.int e)) (.dat (.str z)) (fun y hy => hx y (List.mem_cons_of_mem _ hy)) (.inr ⟨_, _, _, rfl, rfl, rfl⟩) (by omega) k2
    refine ⟨t2, t3, t4, g4, ?_, k3, ?_⟩
    · simp only [forD, st, ih, List.foldl_cons]
    · rw [List.foldl_cons, List.length_cons]; exact Nat.le_trans l2 (by omega)
theorem lenD_ok {xs : List D} (hx : ∀ x ∈ xs, GoodY x) (hl : xs.length < 900) : LenOk (lenD xs) ∧ (lenD xs).length ≤ xs.length := by
  obtain ⟨_, _, _, _, _, k, l⟩ := len_loop (all := .non) xs [] .no .no .no hx (.inl ⟨rfl, rfl, rfl⟩) (by rw [List.length_nil]; omega) LenOk.nil
  rw [List.length_nil, Nat.zero_add] at l
  exact ⟨k, l⟩
theorem Ln.fine.check {l : Ln} (h : l.fine) : m_check_task [] [l.d] = .ok .non [] := by
  have := is_task_eq h.dt
  rw [h.task] at this
  simp [-Re.bind, ↓bind_m, big, fnB, start0, endB, bors, Slot.lent, dLt, dGt, dGe, dLe, dAdd, dSub, dMul, dMod, dDiv, dNeg, fInt, dIx, atI, fLen, dLen, fTuple, wipeE, restE, noMut, itemsD, dSl, ixN, m_check_task, this]
/-- the lengths of a task's sections -/
theorem lens_eq {l : Ln} (h : l.fine) : m_section_lengths [] [l.d] = .ok (.dic (srtD (lenD l.xs))) [] := by
  have l3 := h.l3
  obtain ⟨t2, t3, t4, h4, e1, k, ll⟩ := len_loop (all := l.d) l.xs [] .no .no .no h.x (.inl ⟨rfl, rfl, rfl⟩) (by rw [List.length_nil]; omega) LenOk.nil
  have kt := keyTxt_nm k.n
  have e0 := h.check
  rw [List.length_nil, Nat.zero_add] at ll
  change forD lenB l.xs _ = .ok .nx [_, .own (.dic (lenD l.xs)), _, _, _] at e1
  change LenOk (lenD l.xs) at k
  change keyTxt (lenD l.xs) = some (txtK (lenD l.xs)) at kt
  change (lenD l.xs).length ≤ _ at ll
  have tl : (txtK (lenD l.xs)).length ≤ (lenD l.xs).length := by unfold txtK; exact List.length_filterMap_le _ _
  have nm : ∀ z ∈ txtK (lenD l.xs), nameB (.str z) = true := fun z hz => by
    obtain ⟨d, hd⟩ := txtK_mem.mp hz
    obtain ⟨y, e, hy⟩ := k.n _ hd
    cases e
    exact hy
  have b1 : (txtK (lenD l.xs)).length < 64 ∧ ((txtK (lenD l.xs)).all fun x => decide (x.length ≤ 1000000) && PyData.strOk x) = true := by
    refine ⟨by omega, List.all_eq_true.mpr fun z hz => ?_⟩
    have := name_len (nm z hz)
    simp only [Bool.and_eq_true, decide_eq_true_eq]
    exact ⟨by omega, this.2⟩
  have so : lSortedX [.dic (lenD l.xs)] = some (isort ((txtK (lenD l.xs)).map D.str)) := by
    simp only [lSortedX, kt, Option.bind_some]
    exact if_pos b1
  have il : (isort ((txtK (lenD l.xs)).map D.str)).length ≤ 1000000 := by
    rw [(isort_perm _).length_eq, List.length_map]; omega
  have dc : ∀ (a b c : Slot), dcL (tName 4) bYes (eV 4) (eDat 1 (eOp dIx (eV 1) (eV 4)) (eIxO 1 (eV 4))) [4] (isort ((txtK (lenD l.xs)).map D.str)) [a, .dat (.dic (lenD l.xs)), b, c, .no] =
      .ok ((isort ((txtK (lenD l.xs)).map D.str)).map fun d => (.inr (unS d), (lkD (lenD l.xs) (.inr (unS d))).getD .non)) [a, .dat (.dic (lenD l.xs)), b, c, .no] := fun a b c => by
    have := dcL_of (t := tName 4) (c := bYes) (k := eV 4) (e := eDat 1 (eOp dIx (eV 1) (eV 4)) (eIxO 1 (eV 4))) (vs := [4]) (ρ := [a, .dat (.dic (lenD l.xs)), b, c, .no]) (g := id) (kk := fun d => .inr (unS d)) (h := fun d => (lkD (lenD l.xs) (.inr (unS d))).getD .non)
      (isort ((txtK (lenD l.xs)).map D.str)) fun d hd => ?_
    · simpa [-Re.bind, ↓bind_m, big, fnB, start0, endB, bors, Slot.lent, dLt, dGt, dGe, dLe, dAdd, dSub, dMul, dMod, dDiv, dNeg, fInt, dIx, atI, fLen, dLen, fTuple, wipeE, restE, noMut, itemsD, dSl, ixN] using this
    · obtain ⟨z, hz, rfl⟩ := List.mem_map.mp ((isort_perm _).mem_iff.mp hd)
      obtain ⟨v, hv⟩ := lkD_some (txtK_mem.mp hz)
      exact ⟨[a, .dat (.dic (lenD l.xs)), b, c, .dat (.str z)], [a, .dat (.dic (lenD l.xs)), b, c, .dat (.str z)], [a, .dat (.dic (lenD l.xs)), b, c, .dat (.str z)], [a, .dat (.dic (lenD l.xs)), b, c, .dat (.str z)], .str z, rfl, rfl, rfl, rfl,
        by simp [-Re.bind, ↓bind_m, big, fnB, start0, endB, bors, Slot.lent, dLt, dGt, dGe, dLe, dAdd, dSub, dMul, dMod, dDiv, dNeg, fInt, dIx, atI, fLen, dLen, fTuple, wipeE, restE, noMut, itemsD, dSl, ixN, dKey, unS, hv], rfl⟩
  have e5 : eOp dIx (eV 0) (eC (.int 5)) [.dat l.d, .own (.dic []), .no, .no, .no] = .ok (.tup l.xs) [.dat l.d, .own (.dic []), .no, .no, .no] := by simp [-Re.bind, ↓bind_m, big, fnB, start0, endB, bors, Slot.lent, dLt, dGt, dGe, dLe, dAdd, dSub, dMul, dMod, dDiv, dNeg, fInt, dIx, atI, fLen, dLen, fTuple, wipeE, restE, noMut, itemsD, dSl, ixN, Ln.d]
  rcases h4 with rfl | ⟨x4, rfl⟩ <;> simp [-Re.bind, ↓bind_m, big, fnB, start0, endB, bors, Slot.lent, dLt, dGt, dGe, dLe, dAdd, dSub, dMul, dMod, dDiv, dNeg, fInt, dIx, atI, fLen, dLen, fTuple, wipeE, restE, noMut, itemsD, dSl, ixN, -eOp, m_section_lengths, e0, e5, e1, so, il, dc, srtD]
end Dw


set_option Elab.async false
set_option linter.all false
set_option maxRecDepth 100000
set_option maxHeartbeats 4000000
/-! harder tasks: the program's functions -/
namespace Dw
open PySem PySem.Spec PyProof.Rows L2 Gd Dx
theorem fAll_of {α : Type} (f : α → Bool) (xs : List α) : fAll [.lst (xs.map fun x => .bl (f x))] = some (.bl (xs.all f)) := by
  have h : ∃ a, unB (xs.map fun x => .bl (f x)) = some a ∧ a.all id = xs.all f := by
    induction xs with
    | nil => exact ⟨[], rfl, rfl⟩
    | cons x r ih =>
      obtain ⟨a, h1, h2⟩ := ih
      exact ⟨f x :: a, by simp [-Re.bind, ↓bind_m, big, fnB, start0, endB, bors, Slot.lent, dLt, dGt, dGe, dLe, dAdd, dSub, dMul, dMod, dDiv, dNeg, fInt, dIx, atI, fLen, dLen, fTuple, wipeE, restE, noMut, itemsD, dSl, ixN, unB, h1], by simp [-Re.bind, ↓bind_m, big, fnB, start0, endB, bors, Slot.lent, dLt, dGt, dGe, dLe, dAdd, dSub, dMul, dMod, dDiv, dNeg, fInt, dIx, atI, fLen, dLen, fTuple, wipeE, restE, noMut, itemsD, dSl, ixN, h2]⟩
  obtain ⟨a, h1, h2⟩ := h
  simp only [fAll, h1, Option.map_some, h2]
theorem eqv_str : ∀ xs ys : List Str, PyData.eqvAll (pdL (xs.map D.str)) (pdL (ys.map D.str)) = decide (xs = ys)
  | [], [] => rfl
  | [], _ :: _ => rfl
  | _ :: _, [] => rfl
  | x :: r, y :: t => by
    have := eqv_str r t
    simp only [List.map_cons, pdL, pd, PyData.eqvAll, PyData.eqv, this]
    by_cases h : x = y <;> by_cases h2 : r = t <;> simp [-Re.bind, ↓bind_m, big, fnB, start0, endB, bors, Slot.lent, dLt, dGt, dGe, dLe, dAdd, dSub, dMul, dMod, dDiv, dNeg, fInt, dIx, atI, fLen, dLen, fTuple, wipeE, restE, noMut, itemsD, dSl, ixN, h, h2]
theorem pl_strs (n : Nat) : ∀ xs : List Str, plL (n + 1) (xs.map D.str) = true := fun xs => plL_of fun x hx => by
  obtain ⟨z, _, rfl⟩ := List.mem_map.mp hx
  rfl
theorem dNe_strs (xs ys : List Str) : dNe (.tup (xs.map D.str)) (.tup (ys.map D.str)) = some (.bl (!decide (xs = ys))) := by
  unfold dNe
  rw [if_pos ⟨by simpa only [Dx.pl] using pl_strs 14 xs, by simpa only [Dx.pl] using pl_strs 14 ys⟩]
  simp only [pd, PyData.eqv, eqv_str]
theorem itmD_map (ks : List (Key × D)) : itmD ks = ks.map fun p => .tup [keyD p.1, p.2] := by
  unfold itmD Dx.pairD
  induction ks with
  | nil => rfl
  | cons p r ih => simpa [-Re.bind, ↓bind_m, big, fnB, start0, endB, bors, Slot.lent, dLt, dGt, dGe, dLe, dAdd, dSub, dMul, dMod, dDiv, dNeg, fInt, dIx, atI, fLen, dLen, fTuple, wipeE, restE, noMut, itemsD, dSl, ixN] using ih
def longer (xs : List D) (s : D) : Bool := xs.any fun x => decide (lockOf x = lockOf s) && decide (secLen s ≤ secLen x)
def hardT (a b : Ln) : Bool := !(decide (a.L < b.L) || decide (a.r < b.r)) && !(decide (b.g < a.g) || decide (b.dl < a.dl)) && b.xs.all (longer a.xs)
def keyS : Key → Str
  | .inr z => z
  | .inl _ => ""
def intOf : D → Int
  | .int i => i
  | _ => 0
theorem secLen_pos {hi : Int} {xs : List D} (hx : ∀ x ∈ xs, GoodY x) (hc : chainB hi 0 xs = true) : ∀ x ∈ xs, 1 ≤ secLen x := fun x h => by
  obtain ⟨b, e, l, rfl, _, _, h2, _⟩ := chain_bound xs 0 hx hc x h
  simp only [secLen]
  omega
theorem all_longer {xs ys : List D} {hi : Int} (hx : ∀ x ∈ xs, GoodY x) (lx : xs.length < 900) (hy : ∀ x ∈ ys, GoodY x) (ly : ys.length < 900) (hc : chainB hi 0 ys = true) :
    ((srtD (lenD ys)).all fun p => decide (intOf p.2 ≤ getI (lenD xs) (keyS p.1))) = ys.all (longer xs) := by
  obtain ⟨kx, _⟩ := lenD_ok hx lx
  obtain ⟨ky, _⟩ := lenD_ok hy ly
  have gx : ∀ z, getI (lenD xs) z = mxF z xs 0 := fun z => getI_fold z xs []
  have gy : ∀ z, getI (lenD ys) z = mxF z ys 0 := fun z => getI_fold z ys []
  have py := secLen_pos hy hc
  rw [Bool.eq_iff_iff, List.all_eq_true, List.all_eq_true]
  constructor
  · intro h s hs
    have e : (lkD (lenD ys) (.inr (lockOf s))).isSome = true := by
      have := lk_fold (lockOf s) ys []
      unfold lenD
      rw [this, Bool.or_eq_true]
      exact .inl (decide_eq_true ⟨s, hs, rfl⟩)
    obtain ⟨d, hd⟩ := Option.isSome_iff_exists.mp e
    obtain ⟨i, rfl⟩ := ky.i _ _ hd
    have m : i ≤ getI (lenD xs) (lockOf s) := of_decide_eq_true (h _ ((srtD_mem ky.n ky.d).mpr ((mem_lkD ky.d).mpr hd)))
    have gi : i = mxF (lockOf s) ys 0 := by rw [← gy]; unfold getI; rw [hd]
    have a1 := mxF_mem (lockOf s) ys 0 s hs rfl
    have a2 := py s hs
    rw [gx] at m
    rcases mxF_at (lockOf s) xs 0 with z | ⟨x, hx', e1, e2⟩
    · omega
    · unfold longer
      rw [List.any_eq_true]
      exact ⟨x, hx', by rw [Bool.and_eq_true, decide_eq_true_eq, decide_eq_true_eq]; exact ⟨e1, by omega⟩⟩
  · rintro h ⟨k, d⟩ hp
    have hd := (mem_lkD ky.d).mp ((srtD_mem ky.n ky.d).mp hp)
    obtain ⟨z, e, _⟩ := ky.n _ ((srtD_mem ky.n ky.d).mp hp)
    dsimp only at e
    subst e
    obtain ⟨i, rfl⟩ := ky.i _ _ hd
    have gi : i = mxF z ys 0 := by rw [← gy]; unfold getI; rw [hd]
    refine decide_eq_true (show i ≤ getI (lenD xs) z from ?_)
    rw [gx]
    rcases mxF_at z ys 0 with z0 | ⟨s, hs, e1, e2⟩
    · have := mxF_ge z xs 0; omega
    · have := h s hs
      unfold longer at this
      rw [List.any_eq_true] at this
      obtain ⟨x, hx', q⟩ := this
      rw [Bool.and_eq_true, decide_eq_true_eq, decide_eq_true_eq] at q
      have := mxF_mem z xs 0 x hx' (q.1.trans e1)
      omega
section
variable {a b : Ln} (ha : a.fine) (hb : b.fine)
include ha hb
theorem is_harder_task_eq : m__is_harder_task [] [a.d, b.d] = .ok (.bl (hardT a b)) [] := by
  have e1 := lens_eq ha
  have e2 := lens_eq hb
  have la := ha.l3
  have lb := hb.l3
  obtain ⟨kx, lx⟩ := lenD_ok ha.x (by omega)
  obtain ⟨ky, ly⟩ := lenD_ok hb.x (by omega)
  have ok : (srtD (lenD b.xs)).all (fun p => keyOk p.1) = true := List.all_eq_true.mpr fun p hp => by
    obtain ⟨k, d⟩ := p
    obtain ⟨z, e, hz⟩ := ky.n _ ((srtD_mem ky.n ky.d).mp hp)
    dsimp only at e
    subst e
    have := name_len hz
    simp only [keyOk, Bool.and_eq_true, decide_eq_true_eq]
    exact ⟨by have := this.1; simp only [big]; omega, this.2⟩
  have ln : (srtD (lenD b.xs)).length ≤ 1000000 := by rw [srtD_len ky.n ky.d]; omega
  have lc : lcL (tTup 2 (tCons (tName 3) (tCons (tName 4) tNil))) bYes (eOp dGe (eGet2 (eV 2) (eV 3) (eC (.int 0))) (eV 4)) [3, 4] (itmD (srtD (lenD b.xs))) [.dat a.d, .dat b.d, .dat (.dic (srtD (lenD a.xs))), .no, .no] =
      .ok ((srtD (lenD b.xs)).map fun p => .bl (decide (intOf p.2 ≤ getI (lenD a.xs) (keyS p.1)))) [.dat a.d, .dat b.d, .dat (.dic (srtD (lenD a.xs))), .no, .no] := by
    rw [itmD_map]
    refine lcL_of _ fun p hp => ?_
    obtain ⟨k, d⟩ := p
    have hd := (mem_lkD ky.d).mp ((srtD_mem ky.n ky.d).mp hp)
    obtain ⟨z, e, hz⟩ := ky.n _ ((srtD_mem ky.n ky.d).mp hp)
    dsimp only at e
    subst e
    obtain ⟨i, rfl⟩ := ky.i _ _ hd
    have g := getD_int kx z
    rw [← srtD_lk kx.n kx.d] at g
    exact ⟨[.dat a.d, .dat b.d, .dat (.dic (srtD (lenD a.xs))), .dat (.str z), .dat (.int i)], [.dat a.d, .dat b.d, .dat (.dic (srtD (lenD a.xs))), .dat (.str z), .dat (.int i)], [.dat a.d, .dat b.d, .dat (.dic (srtD (lenD a.xs))), .dat (.str z), .dat (.int i)], by simp [-Re.bind, ↓bind_m, big, fnB, start0, endB, bors, Slot.lent, dLt, dGt, dGe, dLe, dAdd, dSub, dMul, dMod, dDiv, dNeg, fInt, dIx, atI, fLen, dLen, fTuple, wipeE, restE, noMut, itemsD, dSl, ixN, keyD], rfl, by simp [-Re.bind, ↓bind_m, big, fnB, start0, endB, bors, Slot.lent, dLt, dGt, dGe, dLe, dAdd, dSub, dMul, dMod, dDiv, dNeg, fInt, dIx, atI, fLen, dLen, fTuple, wipeE, restE, noMut, itemsD, dSl, ixN, dKey, g, keyS, intOf]; congr, rfl⟩
  have fa := fAll_of (fun p : Key × D => decide (intOf p.2 ≤ getI (lenD a.xs) (keyS p.1))) (srtD (lenD b.xs))
  rw [all_longer ha.x (by omega) hb.x (by omega) hb.c] at fa
  have lp : (itmD (srtD (lenD b.xs))).length ≤ 1000000 := by rw [itmD_map, List.length_map]; exact ln
  unfold hardT
  by_cases h1 : a.L < b.L
  · simp [-Re.bind, ↓bind_m, big, fnB, start0, endB, bors, Slot.lent, dLt, dGt, dGe, dLe, dAdd, dSub, dMul, dMod, dDiv, dNeg, fInt, dIx, atI, fLen, dLen, fTuple, wipeE, restE, noMut, itemsD, dSl, ixN, m__is_harder_task, Ln.d, h1]
  by_cases h2 : a.r < b.r
  · simp [-Re.bind, ↓bind_m, big, fnB, start0, endB, bors, Slot.lent, dLt, dGt, dGe, dLe, dAdd, dSub, dMul, dMod, dDiv, dNeg, fInt, dIx, atI, fLen, dLen, fTuple, wipeE, restE, noMut, itemsD, dSl, ixN, m__is_harder_task, Ln.d, h1, h2]
  by_cases h3 : b.g < a.g
  · simp [-Re.bind, ↓bind_m, big, fnB, start0, endB, bors, Slot.lent, dLt, dGt, dGe, dLe, dAdd, dSub, dMul, dMod, dDiv, dNeg, fInt, dIx, atI, fLen, dLen, fTuple, wipeE, restE, noMut, itemsD, dSl, ixN, m__is_harder_task, Ln.d, h1, h2, h3]
  by_cases h4 : b.dl < a.dl
  · simp [-Re.bind, ↓bind_m, big, fnB, start0, endB, bors, Slot.lent, dLt, dGt, dGe, dLe, dAdd, dSub, dMul, dMod, dDiv, dNeg, fInt, dIx, atI, fLen, dLen, fTuple, wipeE, restE, noMut, itemsD, dSl, ixN, m__is_harder_task, Ln.d, h1, h2, h3, h4]
  simp only [Ln.d] at e1 e2 lc
  simp [-Re.bind, ↓bind_m, big, fnB, start0, endB, bors, Slot.lent, dLt, dGt, dGe, dLe, dAdd, dSub, dMul, dMod, dDiv, dNeg, fInt, dIx, atI, fLen, dLen, fTuple, wipeE, restE, noMut, itemsD, dSl, ixN, m__is_harder_task, Ln.d, h1, h2, h3, h4, e1, e2, ok, lp, lc, fa, Cell.frz]
end
end Dw


set_option Elab.async false
set_option linter.all false
set_option maxRecDepth 100000
set_option maxHeartbeats 4000000
/-! harder tasks: places of names -/
namespace Dw
open PySem PySem.Spec PyProof.Rows L2 Gd Dx
theorem idx_inj {N : List Str} {a b : Str} (ha : a ∈ N) (hb : b ∈ N) (h : N.idxOf a = N.idxOf b) : a = b := by
  have h1 := List.getElem_idxOf (List.idxOf_lt_length_iff.mpr ha)
  have h2 := List.getElem_idxOf (List.idxOf_lt_length_iff.mpr hb)
  rw [← h1, ← h2]
  simp only [h]
theorem idx_pw {N : List Str} (nd : N.Nodup) : N.Pairwise fun a b => N.idxOf a ≤ N.idxOf b := List.pairwise_iff_getElem.mpr fun i j hi hj h => by
  rw [nd.idxOf_getElem i hi, nd.idxOf_getElem j hj]; omega
/-- the names of one that are of the other: in their order -/
theorem sub_iff {N M : List Str} (nN : N.Nodup) (nM : M.Nodup) : (N.filter fun z => decide (z ∈ M)) = M ↔ (∀ m ∈ M, m ∈ N) ∧ (M.map fun z => N.idxOf z).Pairwise (· ≤ ·) := by
  constructor
  · intro h
    have s : M.Sublist N := h ▸ List.filter_sublist
    exact ⟨fun m hm => s.subset hm, List.pairwise_map.mpr ((idx_pw nN).sublist s)⟩
  · rintro ⟨h1, h2⟩
    have nF : (N.filter fun z => decide (z ∈ M)).Nodup := nN.sublist List.filter_sublist
    refine List.Perm.eq_of_pairwise (le := fun a b => N.idxOf a ≤ N.idxOf b) (fun a b ha hb h h' => ?_) ((idx_pw nN).sublist List.filter_sublist) (List.pairwise_map.mp h2) ((List.perm_ext_iff_of_nodup nF nM).mpr fun a => ?_)
    · exact idx_inj (List.mem_filter.mp ha).1 (h1 b hb) (Nat.le_antisymm h h')
    · rw [List.mem_filter, decide_eq_true_eq]
      exact ⟨fun q => q.2, fun q => ⟨h1 a q, q⟩⟩
theorem find_at {N : List Str} {z : Str} (h : z ∈ N) : (N.map D.str).findIdx? (fun y => eqF y (.str z)) = some (N.idxOf z) := by
  have e : ((fun y => eqF y (.str z)) ∘ D.str) = fun x => x == z := by funext x; rfl
  rw [List.findIdx?_map, e, List.findIdx?_eq_some_iff_findIdx_eq]
  exact ⟨List.idxOf_lt_length_iff.mpr h, rfl⟩
theorem any_at (N : List Str) (z : Str) : ((N.map D.str).any fun y => eqF y (.str z)) = decide (z ∈ N) := by
  rw [Bool.eq_iff_iff, List.any_map, List.any_eq_true, decide_eq_true_eq]
  constructor
  · rintro ⟨x, hx, e⟩
    have : x = z := by simpa [eqF] using e
    exact this ▸ hx
  · intro h
    exact ⟨z, h, by simp [eqF]⟩
theorem flat_strs (N : List Str) : (N.map D.str).all flatD = true := List.all_eq_true.mpr fun x hx => by
  obtain ⟨z, _, rfl⟩ := List.mem_map.mp hx
  rfl
theorem eqv_ints : ∀ xs ys : List Int, PyData.eqvAll (pdL (xs.map D.int)) (pdL (ys.map D.int)) = decide (xs = ys)
  | [], [] => rfl
  | [], _ :: _ => rfl
  | _ :: _, [] => rfl
  | x :: r, y :: t => by
    have := eqv_ints r t
    simp only [List.map_cons, pdL, pd, PyData.eqvAll, PyData.eqv, this]
    by_cases h : x = y <;> by_cases h2 : r = t <;> simp [h, h2]
theorem pl_ints (n : Nat) : ∀ xs : List Int, plL (n + 1) (xs.map D.int) = true := fun xs => plL_of fun x hx => by
  obtain ⟨z, _, rfl⟩ := List.mem_map.mp hx
  rfl
theorem dNe_ints (xs ys : List Int) : dNe (.lst (xs.map D.int)) (.lst (ys.map D.int)) = some (.bl (!decide (xs = ys))) := by
  unfold dNe
  rw [if_pos ⟨by simpa only [Dx.pl] using pl_ints 14 xs, by simpa only [Dx.pl] using pl_ints 14 ys⟩]
  simp only [pd, PyData.eqv, eqv_ints]
theorem dEq_ints (xs ys : List Int) : dEq (.lst (xs.map D.int)) (.lst (ys.map D.int)) = some (.bl (decide (xs = ys))) := by
  unfold dEq
  rw [if_pos ⟨by simpa only [Dx.pl] using pl_ints 14 xs, by simpa only [Dx.pl] using pl_ints 14 ys⟩]
  simp only [pd, PyData.eqv, eqv_ints]
theorem ltD_int (a b : Int) : ltD (.int a) (.int b) = decide (a < b) := by
  unfold ltD ordK lLt
  by_cases h : a = b
  · subst h; simp [lLt]
  · simp [kLt, h]
theorem srt_ints {xs : List Int} : SrtD (xs.map D.int) ↔ xs.Pairwise (· ≤ ·) := by
  unfold SrtD
  rw [List.pairwise_map]
  refine List.Pairwise.iff fun a b => ?_
  rw [ltD_int, decide_eq_false_iff_not]
  omega
/-- sorted whole numbers -/
theorem sort_ints (xs : List Int) : ∃ ys : List Int, lSortedX [.lst (xs.map D.int)] = some (ys.map D.int) ∧ ys.Perm xs ∧ (xs = ys ↔ xs.Pairwise (· ≤ ·)) := by
  have perm_ints : ∀ {ys : List D}, ys.Perm (xs.map D.int) → ∃ m : List Int, ys = m.map D.int ∧ m.Perm xs := fun {ys} p => by
    have hy : ∀ y ∈ ys, ∃ i, y = .int i := fun y h => by obtain ⟨i, _, e⟩ := List.mem_map.mp (p.mem_iff.mp h); exact ⟨i, e.symm⟩
    refine ⟨ys.map intOf, ?_, ?_⟩
    · rw [List.map_map]
      conv => lhs; rw [← List.map_id ys]
      refine List.map_congr_left fun y h => ?_
      obtain ⟨i, rfl⟩ := hy y h
      rfl
    · have := p.map intOf
      rw [List.map_map] at this
      have e : (xs.map (intOf ∘ D.int)) = xs := by
        conv => rhs; rw [← List.map_id xs]
        exact List.map_congr_left fun _ _ => rfl
      rwa [e] at this
  obtain ⟨ys, e, p⟩ := perm_ints (isort_perm (xs.map D.int))
  have ai : (xs.map D.int).all Dx.isInt = true := List.all_eq_true.mpr fun x hx => by
    obtain ⟨z, _, rfl⟩ := List.mem_map.mp hx
    rfl
  have so : lSortedX [.lst (xs.map D.int)] = some (isort (xs.map D.int)) := by
    have l : lSorted [.lst (xs.map D.int)] = some (isort (xs.map D.int)) := by simp only [lSorted, if_pos ai]
    cases xs with
    | nil => rfl
    | cons x r => simp only [lSortedX]; rw [if_neg ?_]; exact l; intro z; simp [Dx.isStr] at z
  refine ⟨ys, by rw [so, e], p, ?_, fun h => ?_⟩
  · intro h
    have := isort_srt (xs.map D.int)
    rw [e, ← h] at this
    exact srt_ints.mp this
  · have inj : ∀ x ∈ xs.map D.int, ∀ y ∈ xs.map D.int, ordK x = ordK y → x = y := by
      intro x hx y hy e
      obtain ⟨a, _, rfl⟩ := List.mem_map.mp hx
      obtain ⟨b, _, rfl⟩ := List.mem_map.mp hy
      simp only [ordK, List.cons.injEq, Sum.inl.injEq, and_true] at e
      rw [e]
    have q := srt_one inj (isort_perm (xs.map D.int)).symm (srt_ints.mpr h) (isort_srt _)
    rw [e] at q
    have : xs.map D.int = ys.map D.int := q
    have inj2 : ∀ {a b : List Int}, a.map D.int = b.map D.int → a = b := fun {a b} => by
      induction a generalizing b with
      | nil => intro h; cases b with | nil => rfl | cons _ _ => cases h
      | cons x r ih => intro h; cases b with | nil => cases h | cons y t => simp only [List.map_cons, List.cons.injEq, D.int.injEq] at h; rw [h.1, ih h.2]
    exact inj2 this
end Dw


set_option Elab.async false
set_option linter.all false
set_option maxRecDepth 100000
set_option maxHeartbeats 4000000
/-! harder tasks: the program's answer and the law's -/
namespace Dw
open PySem PySem.Spec PyProof.Rows L2 Gd Dx
def atN (as : List Ln) (z : Str) : Option Ln := as[(as.map Ln.n).idxOf z]?
def hAt (as : List Ln) (b : Ln) : Bool := match atN as b.n with
  | some a => hardT a b
  | none => false
def inO (as bs : List Ln) : Bool := decide (((as.map Ln.n).filter fun z => decide (z ∈ bs.map Ln.n)) = bs.map Ln.n)
def hrd (as bs : List Ln) : Bool := inO as bs && bs.all (hAt as)
theorem atN_ok {as : List Ln} {z : Str} (h : z ∈ as.map Ln.n) : ∃ a, atN as z = some a ∧ as[(as.map Ln.n).idxOf z]? = some a ∧ a.n = z := by
  have h1 := List.idxOf_lt_length_iff.mpr h
  have h2 : (as.map Ln.n).idxOf z < as.length := by rw [List.length_map] at h1; exact h1
  refine ⟨as[(as.map Ln.n).idxOf z], List.getElem?_eq_getElem h2, List.getElem?_eq_getElem h2, ?_⟩
  have := List.getElem_idxOf h1
  rw [List.getElem_map] at this
  exact this
theorem inO_iff {as bs : List Ln} (A : TsOk as) (B : TsOk bs) : inO as bs = true ↔ (∀ b ∈ bs, b.n ∈ as.map Ln.n) ∧ (bs.map fun b => (as.map Ln.n).idxOf b.n).Pairwise (· ≤ ·) := by
  unfold inO
  rw [decide_eq_true_eq, sub_iff A.nd B.nd, List.map_map]
  refine and_congr ⟨fun h b hb => h _ (List.mem_map_of_mem hb), fun h m hm => ?_⟩ Iff.rfl
  obtain ⟨b, hb, rfl⟩ := List.mem_map.mp hm
  exact h b hb
theorem contains_any {bs : List Ln} (B : TsOk bs) (z : Str) : m_Tasks___contains__ [] [tasksO bs, .str z] = .ok (.bl (decide (z ∈ bs.map Ln.n))) [] := by
  by_cases h : z ∈ bs.map Ln.n
  · obtain ⟨b, hb, rfl⟩ := List.mem_map.mp h
    obtain ⟨j, hj, e⟩ := List.mem_iff_getElem.mp hb
    rw [decide_eq_true h]
    exact contains_at B (j := j) (l := b) (by rw [← e]; exact List.getElem?_eq_getElem hj)
  · have := urg_find (bs.map Ln.n) 0 (.inr z) fun y hy e => h (by cases e; exact hy)
    rw [decide_eq_false h]
    simp [-Re.bind, ↓bind_m, big, fnB, start0, endB, bors, Slot.lent, dLt, dGt, dGe, dLe, dAdd, dSub, dMul, dMod, dDiv, dNeg, fInt, dIx, atI, fLen, dLen, fTuple, wipeE, restE, noMut, itemsD, dSl, ixN, m_Tasks___contains__, tasksO, tasksF, ofS, ofSb, lkS, fIsi, tyD, isB, dIn, dKey, this]
theorem names_eq (ls : List Ln) : m_Tasks_names [] [tasksO ls] = .ok (.tup ((ls.map Ln.n).map D.str)) [] := by
  simp [-Re.bind, ↓bind_m, big, fnB, start0, endB, bors, Slot.lent, dLt, dGt, dGe, dLe, dAdd, dSub, dMul, dMod, dDiv, dNeg, fInt, dIx, atI, fLen, dLen, fTuple, wipeE, restE, noMut, itemsD, dSl, ixN, m_Tasks_names, tasksO, tasksF, ofS, ofSb, lkS]
section
variable {as bs : List Ln} (A : TsOk as) (B : TsOk bs)
include A
theorem getitem_at {j : Nat} {a : Ln} (hj : as[j]? = some a) : m_Tasks___getitem__ [] [tasksO as, .str a.n] = .ok a.d [] := by
  have u := urgency_at A hj
  obtain ⟨h1, h2⟩ := List.getElem?_eq_some_iff.mp hj
  have n10 := A.n
  simp only [tasksO] at u
  have e7 : (tasksF as).lookup ("_tasks" : Str) = some (.tup (as.map Ln.d)) := by simp [-Re.bind, ↓bind_m, big, fnB, start0, endB, bors, Slot.lent, dLt, dGt, dGe, dLe, dAdd, dSub, dMul, dMod, dDiv, dNeg, fInt, dIx, atI, fLen, dLen, fTuple, wipeE, restE, noMut, itemsD, dSl, ixN, tasksF, lkS]
  have e8 : (tasksF as).lookup ("urgency" : Str) = none := by simp [-Re.bind, ↓bind_m, big, fnB, start0, endB, bors, Slot.lent, dLt, dGt, dGe, dLe, dAdd, dSub, dMul, dMod, dDiv, dNeg, fInt, dIx, atI, fLen, dLen, fTuple, wipeE, restE, noMut, itemsD, dSl, ixN, tasksF, lkS]
  simp [-Re.bind, ↓bind_m, big, fnB, start0, endB, bors, Slot.lent, dLt, dGt, dGe, dLe, dAdd, dSub, dMul, dMod, dDiv, dNeg, fInt, dIx, atI, fLen, dLen, fTuple, wipeE, restE, noMut, itemsD, dSl, ixN, m_Tasks___getitem__, tasksO, u, List.lookup, e7, e8, h1, h2]
include B
theorem is_harder_eq : m_is_harder [] [tasksO as, tasksO bs] = .ok (.bl (hrd as bs)) [] := by
  have nA := A.n
  have nB := B.n
  have c1 := check_tasks_eq as
  have c2 := check_tasks_eq bs
  have n1 := names_eq as
  have n2 := names_eq bs
  have t2 := tasks_eq bs
  have lk : List.lookup ("Tasks" : Str) [(("Tasks" : Str), m_Tasks_names [])] = some (m_Tasks_names []) := by simp [-Re.bind, ↓bind_m, big, fnB, start0, endB, bors, Slot.lent, dLt, dGt, dGe, dLe, dAdd, dSub, dMul, dMod, dDiv, dNeg, fInt, dIx, atI, fLen, dLen, fTuple, wipeE, restE, noMut, itemsD, dSl, ixN, List.lookup]
  have lk2 : List.lookup ("Tasks" : Str) [(("Tasks" : Str), m_Tasks_tasks [])] = some (m_Tasks_tasks []) := by simp [-Re.bind, ↓bind_m, big, fnB, start0, endB, bors, Slot.lent, dLt, dGt, dGe, dLe, dAdd, dSub, dMul, dMod, dDiv, dNeg, fInt, dIx, atI, fLen, dLen, fTuple, wipeE, restE, noMut, itemsD, dSl, ixN, List.lookup]
  have lk3 : List.lookup ("Tasks" : Str) [(("Tasks" : Str), m_Tasks___contains__)] = some m_Tasks___contains__ := by simp [-Re.bind, ↓bind_m, big, fnB, start0, endB, bors, Slot.lent, dLt, dGt, dGe, dLe, dAdd, dSub, dMul, dMod, dDiv, dNeg, fInt, dIx, atI, fLen, dLen, fTuple, wipeE, restE, noMut, itemsD, dSl, ixN, List.lookup]
  have lk4 : List.lookup ("Tasks" : Str) [(("Tasks" : Str), m_Tasks___getitem__)] = some m_Tasks___getitem__ := by simp [-Re.bind, ↓bind_m, big, fnB, start0, endB, bors, Slot.lent, dLt, dGt, dGe, dLe, dAdd, dSub, dMul, dMod, dDiv, dNeg, fInt, dIx, atI, fLen, dLen, fTuple, wipeE, restE, noMut, itemsD, dSl, ixN, List.lookup]
  have lc1 : lcL (tName 3) (bOf (eOp (dInU false [("Tasks", m_Tasks___contains__)]) (eV 3) (eV 1))) (eV 3) [3] ((as.map Ln.n).map D.str) [.dat (tasksO as), .dat (tasksO bs), .no, .no] =
      .ok (((as.map Ln.n).filter fun z => decide (z ∈ bs.map Ln.n)).map D.str) [.dat (tasksO as), .dat (tasksO bs), .no, .no] := by
    have := lcL_fm (t := tName 3) (c := bOf (eOp (dInU false [("Tasks", m_Tasks___contains__)]) (eV 3) (eV 1))) (e := eV 3) (vs := [3]) (ρ := [.dat (tasksO as), .dat (tasksO bs), .no, .no]) (p := fun d => decide (unS d ∈ bs.map Ln.n)) (f := id) ((as.map Ln.n).map D.str) fun d hd => by
      obtain ⟨z, hz, rfl⟩ := List.mem_map.mp hd
      have c := contains_any B z
      simp only [tasksO] at c
      refine ⟨[.dat (tasksO as), .dat (tasksO bs), .no, .dat (.str z)], [.dat (tasksO as), .dat (tasksO bs), .no, .dat (.str z)], rfl, by simp [-Re.bind, ↓bind_m, big, fnB, start0, endB, bors, Slot.lent, dLt, dGt, dGe, dLe, dAdd, dSub, dMul, dMod, dDiv, dNeg, fInt, dIx, atI, fLen, dLen, fTuple, wipeE, restE, noMut, itemsD, dSl, ixN, tasksO, dInU, lk3, c, unS], fun _ => rfl, fun _ => ⟨[.dat (tasksO as), .dat (tasksO bs), .no, .dat (.str z)], by simp [-Re.bind, ↓bind_m, big, fnB, start0, endB, bors, Slot.lent, dLt, dGt, dGe, dLe, dAdd, dSub, dMul, dMod, dDiv, dNeg, fInt, dIx, atI, fLen, dLen, fTuple, wipeE, restE, noMut, itemsD, dSl, ixN], rfl⟩⟩
    rw [this, List.map_id, List.filter_map]
    rfl
  have ln1 : ((as.map Ln.n).map D.str).length ≤ 1000000 := by rw [List.length_map, List.length_map]; omega
  by_cases hn : ((as.map Ln.n).filter fun z => decide (z ∈ bs.map Ln.n)) = bs.map Ln.n
  · have io : inO as bs = true := decide_eq_true hn
    have mem := ((inO_iff A B).mp io).1
    have d1 := dNe_strs ((as.map Ln.n).filter fun z => decide (z ∈ bs.map Ln.n)) (bs.map Ln.n)
    rw [decide_eq_true hn] at d1
    have lc2 : lcL (tName 2) bYes (eCall m__is_harder_task (aCons (eOp (dIxU [("Tasks", m_Tasks___getitem__)]) (eV 0) (eOp dIx (eV 2) (eC (.int 0)))) (aCons (eV 2) aNil))) [2] (bs.map Ln.d) [.dat (tasksO as), .dat (tasksO bs), .no, .no] =
        .ok (bs.map fun b => .bl (hAt as b)) [.dat (tasksO as), .dat (tasksO bs), .no, .no] := by
      refine lcL_of _ fun b hb => ⟨[.dat (tasksO as), .dat (tasksO bs), .dat b.d, .no], [.dat (tasksO as), .dat (tasksO bs), .dat b.d, .no], [.dat (tasksO as), .dat (tasksO bs), .dat b.d, .no], rfl, rfl, ?_, rfl⟩
      obtain ⟨a, e1, e2, e3⟩ := atN_ok (mem b hb)
      have g := getitem_at A e2
      rw [e3] at g
      have am : a ∈ as := List.mem_of_getElem? e2
      have ht := is_harder_task_eq (A.f a am).1 (B.f b hb).1
      simp only [tasksO] at g
      simp only [Ln.d] at ht g
      simp [-Re.bind, ↓bind_m, big, fnB, start0, endB, bors, Slot.lent, dLt, dGt, dGe, dLe, dAdd, dSub, dMul, dMod, dDiv, dNeg, fInt, dIx, atI, fLen, dLen, fTuple, wipeE, restE, noMut, itemsD, dSl, ixN, Ln.d, tasksO, dIxU, lk4, g, ht, hAt, e1]
    have ln2 : (bs.map Ln.d).length ≤ 1000000 := by rw [List.length_map]; omega
    have fa := fAll_of (hAt as) bs
    unfold hrd
    rw [io, Bool.true_and]
    simp only [tasksO] at c1 c2 n1 n2 t2 lc1 lc2 ⊢
    simp only [List.length_map] at ln1 ln2
    simp [-Re.bind, ↓bind_m, big, fnB, start0, endB, bors, Slot.lent, dLt, dGt, dGe, dLe, dAdd, dSub, dMul, dMod, dDiv, dNeg, fInt, dIx, atI, fLen, dLen, fTuple, wipeE, restE, noMut, itemsD, dSl, ixN, -List.map_map, -List.mem_map, m_is_harder, c1, c2, n1, n2, t2, lk, lk2, lc1, lc2, ln1, ln2, d1, fa, Cell.frz]
  · have io : inO as bs = false := decide_eq_false hn
    have d1 := dNe_strs ((as.map Ln.n).filter fun z => decide (z ∈ bs.map Ln.n)) (bs.map Ln.n)
    rw [decide_eq_false hn] at d1
    unfold hrd
    rw [io, Bool.false_and]
    simp only [tasksO] at c1 c2 n1 n2 t2 lc1 ⊢
    simp only [List.length_map] at ln1
    simp [-Re.bind, ↓bind_m, big, fnB, start0, endB, bors, Slot.lent, dLt, dGt, dGe, dLe, dAdd, dSub, dMul, dMod, dDiv, dNeg, fInt, dIx, atI, fLen, dLen, fTuple, wipeE, restE, noMut, itemsD, dSl, ixN, -List.map_map, -List.mem_map, m_is_harder, c1, c2, n1, n2, t2, lk, lk2, lc1, ln1, d1, Cell.frz]
end
end Dw


set_option Elab.async false
set_option linter.all false
set_option maxRecDepth 100000
set_option maxHeartbeats 4000000
/-! harder tasks: the law's own answer -/
namespace Dw
open PySem PySem.Spec PyProof.Rows L2 Gd Dx
theorem dEq_str (a b : Str) : dEq (.str a) (.str b) = some (.bl (decide (a = b))) := by
  unfold dEq
  rw [if_pos ⟨rfl, rfl⟩]
  by_cases h : a = b <;> simp [-Re.bind, ↓bind_m, big, fnB, start0, endB, bors, Slot.lent, dLt, dGt, dGe, dLe, dAdd, dSub, dMul, dMod, dDiv, dNeg, fInt, dIx, atI, fLen, dLen, fTuple, wipeE, restE, noMut, itemsD, dSl, ixN, pd, PyData.eqv, h]
theorem dNe_rep (n m : Nat) : dNe (.lst (List.replicate n (D.int 1))) (.lst (List.replicate m (D.int 1))) = some (.bl (!decide (n = m))) := by
  have := dNe_ints (List.replicate n 1) (List.replicate m 1)
  rw [List.map_replicate, List.map_replicate] at this
  rw [this]
  by_cases h : n = m
  · subst h; simp [-Re.bind, ↓bind_m, big, fnB, start0, endB, bors, Slot.lent, dLt, dGt, dGe, dLe, dAdd, dSub, dMul, dMod, dDiv, dNeg, fInt, dIx, atI, fLen, dLen, fTuple, wipeE, restE, noMut, itemsD, dSl, ixN]
  · have : ¬ (List.replicate n (1 : Int) = List.replicate m 1) := fun e => h (by have := congrArg List.length e; simpa [-Re.bind, ↓bind_m, big, fnB, start0, endB, bors, Slot.lent, dLt, dGt, dGe, dLe, dAdd, dSub, dMul, dMod, dDiv, dNeg, fInt, dIx, atI, fLen, dLen, fTuple, wipeE, restE, noMut, itemsD, dSl, ixN] using this)
    simp [-Re.bind, ↓bind_m, big, fnB, start0, endB, bors, Slot.lent, dLt, dGt, dGe, dLe, dAdd, dSub, dMul, dMod, dDiv, dNeg, fInt, dIx, atI, fLen, dLen, fTuple, wipeE, restE, noMut, itemsD, dSl, ixN, h, this]
theorem ones_len {α : Type} (p : α → Bool) (xs : List α) : ((xs.filter p).map fun _ => D.int 1) = List.replicate (xs.filter p).length (D.int 1) := by
  generalize xs.filter p = ys
  induction ys with
  | nil => rfl
  | cons y r ih => rw [List.map_cons, ih]; rfl
theorem is_longer_eq {xs : List D} (hx : ∀ x ∈ xs, GoodY x) (hl : xs.length ≤ 8) {s : D} (hs : GoodY s) : m__law_is_longer [] [.tup xs, s] = .ok (.bl (longer xs s)) [] := by
  obtain ⟨b, e, z, rfl, _⟩ := hs
  have lc : lcL (tName 2) (bAnd (bOf (eOp dEq (eOp dIx (eV 2) (eC (.int 2))) (eOp dIx (eV 1) (eC (.int 2))))) (bOf (eOp dGe (eOp dSub (eOp dIx (eV 2) (eC (.int 1))) (eOp dIx (eV 2) (eC (.int 0)))) (eOp dSub (eOp dIx (eV 1) (eC (.int 1))) (eOp dIx (eV 1) (eC (.int 0))))))) (eC (.int 1)) [2] xs [.dat (.tup xs), .dat (.tup [.int b, .int e, .str z]), .no] =
      .ok ((xs.filter fun x => decide (lockOf x = z) && decide (e - b ≤ secLen x)).map fun _ => .int 1) [.dat (.tup xs), .dat (.tup [.int b, .int e, .str z]), .no] :=
    lcL_fm xs fun d hd => by
      obtain ⟨b', e', z', rfl, _⟩ := hx d hd
      refine ⟨[.dat (.tup xs), .dat (.tup [.int b, .int e, .str z]), .dat (.tup [.int b', .int e', .str z'])], [.dat (.tup xs), .dat (.tup [.int b, .int e, .str z]), .dat (.tup [.int b', .int e', .str z'])], rfl, ?_, fun _ => rfl, fun _ => ⟨[.dat (.tup xs), .dat (.tup [.int b, .int e, .str z]), .dat (.tup [.int b', .int e', .str z'])], rfl, rfl⟩⟩
      by_cases h : z' = z <;> simp [-Re.bind, ↓bind_m, big, fnB, start0, endB, bors, Slot.lent, dLt, dGt, dGe, dLe, dAdd, dSub, dMul, dMod, dDiv, dNeg, fInt, dIx, atI, fLen, dLen, fTuple, wipeE, restE, noMut, itemsD, dSl, ixN, dEq_str, h, lockOf, secLen] <;> congr
  rw [ones_len] at lc
  have d := dNe_rep (xs.filter fun x => decide (lockOf x = z) && decide (e - b ≤ secLen x)).length 0
  have e1 : (!decide ((xs.filter fun x => decide (lockOf x = z) && decide (e - b ≤ secLen x)).length = 0)) = longer xs (.tup [.int b, .int e, .str z]) := by
    rw [Bool.eq_iff_iff]
    unfold longer
    rw [List.any_eq_true, Bool.not_eq_true', decide_eq_false_iff_not, List.length_eq_zero_iff, List.filter_eq_nil_iff]
    constructor
    · intro h
      apply Classical.byContradiction
      intro c
      exact h fun a ha q => c ⟨a, ha, q⟩
    · rintro ⟨x, hx, q⟩ h
      exact h x hx q
  rw [e1] at d
  simp only [List.replicate_zero] at d
  have ln : xs.length ≤ 1000000 := by omega
  simp [-Re.bind, ↓bind_m, big, fnB, start0, endB, bors, Slot.lent, dLt, dGt, dGe, dLe, dAdd, dSub, dMul, dMod, dDiv, dNeg, fInt, dIx, atI, fLen, dLen, fTuple, wipeE, restE, noMut, itemsD, dSl, ixN, m__law_is_longer, lc, ln, d, Cell.frz]
abbrev chkB : D → SV := bodyD (tTup 2 (tCons (tName 4) (tCons (tName 5) tNil))) (sSeq (sAsg (eOp dIx (eV 0) (eV 4)) (tName 6))
  (sSeq (sIf (bOr (bOf (eOp dLt (eOp dIx (eV 6) (eC (.int 1))) (eOp dIx (eV 5) (eC (.int 1))))) (bOr (bOf (eOp dGt (eOp dIx (eV 6) (eC (.int 2))) (eOp dIx (eV 5) (eC (.int 2))))) (bOr (bOf (eOp dGt (eOp dIx (eV 6) (eC (.int 3))) (eOp dIx (eV 5) (eC (.int 3))))) (bOf (eOp dLt (eOp dIx (eV 6) (eC (.int 4))) (eOp dIx (eV 5) (eC (.int 4)))))))) (sRet (eC (.bl false))) sNil)
  (sIf (bOf (eOp dNe (eFrz (cLc (iSeq (eOp dIx (eV 5) (eC (.int 5)))) (tName 7) (bNot (bOf (eCall m__law_is_longer (aCons (eOp dIx (eV 6) (eC (.int 5))) (aCons (eV 7) aNil))))) (eC (.int 1)) [7])) (eLst aNil))) (sRet (eC (.bl false))) sNil)))
theorem chk_step {as : List Ln} {a b : Ln} {j : Nat} (hj : as[j]? = some a) (ha : a.fine) (hb : b.fine) {r1 r2 r3 s4 s5 s6 : Slot} (hs : (s4 = .no ∧ s5 = .no ∧ s6 = .no) ∨ ∃ x y z, s4 = .dat x ∧ s5 = .dat y ∧ s6 = .dat z) :
    ∃ ρ', chkB (.tup [.int (j : Int), b.d]) [.dat (.tup (as.map Ln.d)), r1, r2, r3, s4, s5, s6, .no] = .ok (if hardT a b = true then .nx else .rt (.bl false)) ρ' ∧ (hardT a b = true → ρ' = [.dat (.tup (as.map Ln.d)), r1, r2, r3, .dat (.int (j : Int)), .dat b.d, .dat a.d, .no]) := by
  refine ⟨[.dat (.tup (as.map Ln.d)), r1, r2, r3, .dat (.int (j : Int)), .dat b.d, .dat a.d, .no], ?_, fun _ => rfl⟩
  obtain ⟨h1, h2⟩ := List.getElem?_eq_some_iff.mp hj
  have la := ha.l3
  have lb := hb.l3
  have st : ∀ s, b.xs.length ≤ 1000000 := fun _ => by omega
  have lc : lcL (tName 7) (bNot (bOf (eCall m__law_is_longer (aCons (eOp dIx (eV 6) (eC (.int 5))) (aCons (eV 7) aNil))))) (eC (.int 1)) [7] b.xs [.dat (.tup (as.map Ln.d)), r1, r2, r3, .dat (.int (j : Int)), .dat b.d, .dat a.d, .no] =
      .ok ((b.xs.filter fun x => !longer a.xs x).map fun _ => .int 1) [.dat (.tup (as.map Ln.d)), r1, r2, r3, .dat (.int (j : Int)), .dat b.d, .dat a.d, .no] :=
    lcL_fm b.xs fun d hd => by
      have e := is_longer_eq ha.x la (hb.x d hd)
      refine ⟨[.dat (.tup (as.map Ln.d)), r1, r2, r3, .dat (.int (j : Int)), .dat b.d, .dat a.d, .dat d], [.dat (.tup (as.map Ln.d)), r1, r2, r3, .dat (.int (j : Int)), .dat b.d, .dat a.d, .dat d], rfl, ?_, fun _ => rfl, fun _ => ⟨[.dat (.tup (as.map Ln.d)), r1, r2, r3, .dat (.int (j : Int)), .dat b.d, .dat a.d, .dat d], rfl, rfl⟩⟩
      simp [-Re.bind, ↓bind_m, big, fnB, start0, endB, bors, Slot.lent, dLt, dGt, dGe, dLe, dAdd, dSub, dMul, dMod, dDiv, dNeg, fInt, dIx, atI, fLen, dLen, fTuple, wipeE, restE, noMut, itemsD, dSl, ixN, Ln.d, e]
  rw [ones_len] at lc
  have d := dNe_rep (b.xs.filter fun x => !longer a.xs x).length 0
  have e1 : (!decide ((b.xs.filter fun x => !longer a.xs x).length = 0)) = !b.xs.all (longer a.xs) := by
    congr 1
    rw [Bool.eq_iff_iff, decide_eq_true_eq, List.length_eq_zero_iff, List.filter_eq_nil_iff, List.all_eq_true]
    exact ⟨fun h x hx => by have := h x hx; simpa [-Re.bind, ↓bind_m, big, fnB, start0, endB, bors, Slot.lent, dLt, dGt, dGe, dLe, dAdd, dSub, dMul, dMod, dDiv, dNeg, fInt, dIx, atI, fLen, dLen, fTuple, wipeE, restE, noMut, itemsD, dSl, ixN] using this, fun h x hx => by simp [-Re.bind, ↓bind_m, big, fnB, start0, endB, bors, Slot.lent, dLt, dGt, dGe, dLe, dAdd, dSub, dMul, dMod, dDiv, dNeg, fInt, dIx, atI, fLen, dLen, fTuple, wipeE, restE, noMut, itemsD, dSl, ixN, h x hx]⟩
  rw [e1] at d
  simp only [List.replicate_zero] at d
  have ln : b.xs.length ≤ 1000000 := by omega
  unfold hardT
  simp only [Ln.d] at lc h2 ⊢
  by_cases q1 : a.L < b.L
  · rcases hs with ⟨rfl, rfl, rfl⟩ | ⟨_, _, _, rfl, rfl, rfl⟩ <;> simp [-Re.bind, ↓bind_m, big, fnB, start0, endB, bors, Slot.lent, dLt, dGt, dGe, dLe, dAdd, dSub, dMul, dMod, dDiv, dNeg, fInt, dIx, atI, fLen, dLen, fTuple, wipeE, restE, noMut, itemsD, dSl, ixN, h1, h2, Ln.d, q1]
  by_cases q2 : a.r < b.r
  · by_cases q3 : b.g < a.g
    · rcases hs with ⟨rfl, rfl, rfl⟩ | ⟨_, _, _, rfl, rfl, rfl⟩ <;> simp [-Re.bind, ↓bind_m, big, fnB, start0, endB, bors, Slot.lent, dLt, dGt, dGe, dLe, dAdd, dSub, dMul, dMod, dDiv, dNeg, fInt, dIx, atI, fLen, dLen, fTuple, wipeE, restE, noMut, itemsD, dSl, ixN, h1, h2, Ln.d, q1, q2, q3]
    · by_cases q4 : b.dl < a.dl <;> rcases hs with ⟨rfl, rfl, rfl⟩ | ⟨_, _, _, rfl, rfl, rfl⟩ <;> simp [-Re.bind, ↓bind_m, big, fnB, start0, endB, bors, Slot.lent, dLt, dGt, dGe, dLe, dAdd, dSub, dMul, dMod, dDiv, dNeg, fInt, dIx, atI, fLen, dLen, fTuple, wipeE, restE, noMut, itemsD, dSl, ixN, h1, h2, Ln.d, q1, q2, q3, q4]
  by_cases q3 : b.g < a.g
  · rcases hs with ⟨rfl, rfl, rfl⟩ | ⟨_, _, _, rfl, rfl, rfl⟩ <;> simp [-Re.bind, ↓bind_m, big, fnB, start0, endB, bors, Slot.lent, dLt, dGt, dGe, dLe, dAdd, dSub, dMul, dMod, dDiv, dNeg, fInt, dIx, atI, fLen, dLen, fTuple, wipeE, restE, noMut, itemsD, dSl, ixN, h1, h2, Ln.d, q1, q2, q3]
  by_cases q4 : b.dl < a.dl
  · rcases hs with ⟨rfl, rfl, rfl⟩ | ⟨_, _, _, rfl, rfl, rfl⟩ <;> simp [-Re.bind, ↓bind_m, big, fnB, start0, endB, bors, Slot.lent, dLt, dGt, dGe, dLe, dAdd, dSub, dMul, dMod, dDiv, dNeg, fInt, dIx, atI, fLen, dLen, fTuple, wipeE, restE, noMut, itemsD, dSl, ixN, h1, h2, Ln.d, q1, q2, q3, q4]
  by_cases q5 : b.xs.all (longer a.xs) = true
  · rw [q5] at d
    rcases hs with ⟨rfl, rfl, rfl⟩ | ⟨_, _, _, rfl, rfl, rfl⟩ <;> simp [-Re.bind, ↓bind_m, big, fnB, start0, endB, bors, Slot.lent, dLt, dGt, dGe, dLe, dAdd, dSub, dMul, dMod, dDiv, dNeg, fInt, dIx, atI, fLen, dLen, fTuple, wipeE, restE, noMut, itemsD, dSl, ixN, h1, h2, Ln.d, q1, q2, q3, q4, q5, lc, ln, d, Cell.frz]
  · rw [Bool.not_eq_true] at q5
    rw [q5] at d
    rcases hs with ⟨rfl, rfl, rfl⟩ | ⟨_, _, _, rfl, rfl, rfl⟩ <;> simp [-Re.bind, ↓bind_m, big, fnB, start0, endB, bors, Slot.lent, dLt, dGt, dGe, dLe, dAdd, dSub, dMul, dMod, dDiv, dNeg, fInt, dIx, atI, fLen, dLen, fTuple, wipeE, restE, noMut, itemsD, dSl, ixN, h1, h2, Ln.d, q1, q2, q3, q4, q5, lc, ln, d, Cell.frz]
end Dw


set_option Elab.async false
set_option linter.all false
set_option maxRecDepth 100000
set_option maxHeartbeats 4000000
/-! harder tasks: the law's own answer is the program's -/
namespace Dw
open PySem PySem.Spec PyProof.Rows L2 Gd Dx
abbrev spot (as : List Ln) (b : Ln) : D := .int (((as.map Ln.n).idxOf b.n : Nat) : Int)
theorem chk_loop {as : List Ln} (fa : ∀ a ∈ as, a.fine) {r1 r2 r3 : Slot} : ∀ (bs : List Ln) (s4 s5 s6 : Slot), (∀ b ∈ bs, b.fine ∧ b.n ∈ as.map Ln.n) → ((s4 = .no ∧ s5 = .no ∧ s6 = .no) ∨ ∃ x y z, s4 = .dat x ∧ s5 = .dat y ∧ s6 = .dat z) →
    ∃ ρ', forD chkB (bs.map fun b => .tup [spot as b, b.d]) [.dat (.tup (as.map Ln.d)), r1, r2, r3, s4, s5, s6, .no] = .ok (if bs.all (hAt as) = true then .nx else .rt (.bl false)) ρ'
  | [], s4, s5, s6, _, _ => ⟨_, rfl⟩
  | b :: r, s4, s5, s6, h, hs => by
    obtain ⟨fb, mb⟩ := h b List.mem_cons_self
    obtain ⟨a, e1, e2, _⟩ := atN_ok mb
    obtain ⟨ρ1, e, eq⟩ := chk_step e2 (fa a (List.mem_of_getElem? e2)) fb (r1 := r1) (r2 := r2) (r3 := r3) hs
    have hb : hAt as b = hardT a b := by simp only [hAt, e1]
    by_cases q : hardT a b = true
    · rw [if_pos q] at e
      rw [eq q] at e
      obtain ⟨ρ', ih⟩ := chk_loop fa (r1 := r1) (r2 := r2) (r3 := r3) r (.dat (spot as b)) (.dat b.d) (.dat a.d) (fun x hx => h x (List.mem_cons_of_mem _ hx)) (.inr ⟨_, _, _, rfl, rfl, rfl⟩)
      exact ⟨ρ', by simp only [List.map_cons, forD, e, ih, List.all_cons, hb, q, Bool.true_and]⟩
    · rw [if_neg q] at e
      rw [Bool.not_eq_true] at q
      exact ⟨ρ1, by simp only [List.map_cons, forD, e, List.all_cons, hb, q, Bool.false_and]; rfl⟩
theorem zip_spots (as : List Ln) : ∀ bs : List Ln, Dx.pairD (bs.map (spot as)) (bs.map Ln.d) = bs.map fun b => .tup [spot as b, b.d]
  | [] => rfl
  | b :: r => by
    have := zip_spots as r
    unfold Dx.pairD at this ⊢
    simp only [List.map_cons, List.zip_cons_cons, this]
theorem pw_cast {α : Type} (f : α → Nat) (xs : List α) : (xs.map fun x => ((f x : Nat) : Int)).Pairwise (· ≤ ·) ↔ (xs.map f).Pairwise (· ≤ ·) := by
  rw [List.pairwise_map, List.pairwise_map]
  exact List.Pairwise.iff fun a b => Int.ofNat_le
section
variable {as bs : List Ln} (A : TsOk as) (B : TsOk bs)
include A B
theorem law_harder_eq : m__law_is_harder [] [.tup (as.map Ln.d), .tup (bs.map Ln.d)] = .ok (.bl (hrd as bs)) [] := by
  have nA := A.n
  have nB := B.n
  have lA : as.length ≤ 1000000 := by omega
  have lB : bs.length ≤ 1000000 := by omega
  have c1 : lcL (tName 5) bYes (eOp dIx (eV 5) (eC (.int 0))) [5] (as.map Ln.d) [.dat (.tup (as.map Ln.d)), .dat (.tup (bs.map Ln.d)), .no, .no, .no, .no, .no, .no] =
      .ok (as.map fun l => .str l.n) [.dat (.tup (as.map Ln.d)), .dat (.tup (bs.map Ln.d)), .no, .no, .no, .no, .no, .no] :=
    lcL_of as fun l hl => ⟨[.dat (.tup (as.map Ln.d)), .dat (.tup (bs.map Ln.d)), .no, .no, .no, .dat l.d, .no, .no], [.dat (.tup (as.map Ln.d)), .dat (.tup (bs.map Ln.d)), .no, .no, .no, .dat l.d, .no, .no], [.dat (.tup (as.map Ln.d)), .dat (.tup (bs.map Ln.d)), .no, .no, .no, .dat l.d, .no, .no], rfl, rfl, by simp [-Re.bind, ↓bind_m, big, fnB, start0, endB, bors, Slot.lent, dLt, dGt, dGe, dLe, dAdd, dSub, dMul, dMod, dDiv, dNeg, fInt, dIx, atI, fLen, dLen, fTuple, wipeE, restE, noMut, itemsD, dSl, ixN, Ln.d], rfl⟩
  have en : (as.map fun l => D.str l.n) = (as.map Ln.n).map D.str := by rw [List.map_map]; rfl
  rw [en] at c1
  have fl := flat_strs (as.map Ln.n)
  have c2 : lcL (tName 5) (bOf (eOp (dIn false) (eOp dIx (eV 5) (eC (.int 0))) (eV 2))) (eIdx (eV 2) (aCons (eOp dIx (eV 5) (eC (.int 0))) aNil)) [5] (bs.map Ln.d) [.dat (.tup (as.map Ln.d)), .dat (.tup (bs.map Ln.d)), .dat (.lst ((as.map Ln.n).map D.str)), .no, .no, .no, .no, .no] =
      .ok ((bs.filter fun b => decide (b.n ∈ as.map Ln.n)).map (spot as)) [.dat (.tup (as.map Ln.d)), .dat (.tup (bs.map Ln.d)), .dat (.lst ((as.map Ln.n).map D.str)), .no, .no, .no, .no, .no] := by
    have := lcL_fm (t := tName 5) (c := bOf (eOp (dIn false) (eOp dIx (eV 5) (eC (.int 0))) (eV 2))) (e := eIdx (eV 2) (aCons (eOp dIx (eV 5) (eC (.int 0))) aNil)) (vs := [5]) (ρ := [.dat (.tup (as.map Ln.d)), .dat (.tup (bs.map Ln.d)), .dat (.lst ((as.map Ln.n).map D.str)), .no, .no, .no, .no, .no])
      (p := fun d => match d with | .tup (.str z :: _) => decide (z ∈ as.map Ln.n) | _ => false) (f := fun d => match d with | .tup (.str z :: _) => .int (((as.map Ln.n).idxOf z : Nat) : Int) | _ => .non) (bs.map Ln.d) fun d hd => by
      obtain ⟨b, hb, rfl⟩ := List.mem_map.mp hd
      have an := any_at (as.map Ln.n) b.n
      refine ⟨[.dat (.tup (as.map Ln.d)), .dat (.tup (bs.map Ln.d)), .dat (.lst ((as.map Ln.n).map D.str)), .no, .no, .dat b.d, .no, .no], [.dat (.tup (as.map Ln.d)), .dat (.tup (bs.map Ln.d)), .dat (.lst ((as.map Ln.n).map D.str)), .no, .no, .dat b.d, .no, .no], rfl, ?_, fun _ => rfl, fun hp => ⟨[.dat (.tup (as.map Ln.d)), .dat (.tup (bs.map Ln.d)), .dat (.lst ((as.map Ln.n).map D.str)), .no, .no, .dat b.d, .no, .no], ?_, rfl⟩⟩
      · have fs : Dx.flatD (.str b.n) = true := rfl
        simp [-Re.bind, ↓bind_m, big, fnB, start0, endB, bors, Slot.lent, dLt, dGt, dGe, dLe, dAdd, dSub, dMul, dMod, dDiv, dNeg, fInt, dIx, atI, fLen, dLen, fTuple, wipeE, restE, noMut, itemsD, dSl, ixN, -List.map_map, -List.mem_map, -List.any_map, -List.all_map, -List.all_eq_true, Ln.d, dIn, fl, an, fs]
      · have fa := find_at (of_decide_eq_true hp : b.n ∈ as.map Ln.n)
        have fs : Dx.flatD (.str b.n) = true := rfl
        simp [-Re.bind, ↓bind_m, big, fnB, start0, endB, bors, Slot.lent, dLt, dGt, dGe, dLe, dAdd, dSub, dMul, dMod, dDiv, dNeg, fInt, dIx, atI, fLen, dLen, fTuple, wipeE, restE, noMut, itemsD, dSl, ixN, -List.map_map, -List.mem_map, -List.findIdx?_map, -List.all_map, -List.all_eq_true, Ln.d, fl, fa, fs]
    rw [this, List.filter_map, List.map_map]
    rfl
  have fz := List.length_filter_le (fun b : Ln => decide (b.n ∈ as.map Ln.n)) bs
  by_cases m : ∀ b ∈ bs, b.n ∈ as.map Ln.n
  · have fe : bs.filter (fun b => decide (b.n ∈ as.map Ln.n)) = bs := List.filter_eq_self.mpr fun b hb => decide_eq_true (m b hb)
    rw [fe] at c2
    obtain ⟨ys, so, py, iff⟩ := sort_ints (bs.map fun b => (((as.map Ln.n).idxOf b.n : Nat) : Int))
    have es : (bs.map fun b => (((as.map Ln.n).idxOf b.n : Nat) : Int)).map D.int = bs.map (spot as) := by rw [List.map_map]; rfl
    have d1 := dNe_ints (bs.map fun b => (((as.map Ln.n).idxOf b.n : Nat) : Int)) ys
    rw [es] at so d1
    have ly : ys.length ≤ 1000000 := by rw [py.length_eq, List.length_map]; exact lB
    by_cases io : inO as bs = true
    · have pw := ((inO_iff A B).mp io).2
      have e := iff.mpr ((pw_cast (fun b : Ln => (as.map Ln.n).idxOf b.n) bs).mpr pw)
      rw [decide_eq_true e] at d1
      obtain ⟨ρ', lp⟩ := chk_loop (fun a ha => (A.f a ha).1) (r1 := .dat (.tup (bs.map Ln.d))) (r2 := .dat (.lst ((as.map Ln.n).map D.str))) (r3 := .dat (.lst (bs.map (spot as)))) bs .no .no .no (fun b hb => ⟨(B.f b hb).1, m b hb⟩) (.inl ⟨rfl, rfl, rfl⟩)
      rw [← zip_spots] at lp
      unfold hrd
      rw [io, Bool.true_and]
      by_cases ha : bs.all (hAt as) = true
      · rw [if_pos ha] at lp
        rw [ha]
        simp [-Re.bind, ↓bind_m, big, fnB, start0, endB, bors, Slot.lent, dLt, dGt, dGe, dLe, dAdd, dSub, dMul, dMod, dDiv, dNeg, fInt, dIx, atI, fLen, dLen, fTuple, wipeE, restE, noMut, itemsD, dSl, ixN, -List.map_map, -List.mem_map, -List.all_map, m__law_is_harder, c1, c2, so, ly, d1, lp, lA, lB, Cell.frz]
      · rw [if_neg ha] at lp
        rw [Bool.not_eq_true] at ha
        rw [ha]
        simp [-Re.bind, ↓bind_m, big, fnB, start0, endB, bors, Slot.lent, dLt, dGt, dGe, dLe, dAdd, dSub, dMul, dMod, dDiv, dNeg, fInt, dIx, atI, fLen, dLen, fTuple, wipeE, restE, noMut, itemsD, dSl, ixN, -List.map_map, -List.mem_map, -List.all_map, m__law_is_harder, c1, c2, so, ly, d1, lp, lA, lB, Cell.frz]
    · have e : ¬ (bs.map fun b => (((as.map Ln.n).idxOf b.n : Nat) : Int)) = ys := fun e => io ((inO_iff A B).mpr ⟨m, (pw_cast (fun b : Ln => (as.map Ln.n).idxOf b.n) bs).mp (iff.mp e)⟩)
      rw [decide_eq_false e] at d1
      rw [Bool.not_eq_true] at io
      unfold hrd
      rw [io, Bool.false_and]
      simp [-Re.bind, ↓bind_m, big, fnB, start0, endB, bors, Slot.lent, dLt, dGt, dGe, dLe, dAdd, dSub, dMul, dMod, dDiv, dNeg, fInt, dIx, atI, fLen, dLen, fTuple, wipeE, restE, noMut, itemsD, dSl, ixN, -List.map_map, -List.mem_map, -List.all_map, m__law_is_harder, c1, c2, so, ly, d1, lA, lB, Cell.frz]
  · have io : inO as bs = false := by
      rw [← Bool.not_eq_true]
      exact fun z => m ((inO_iff A B).mp z).1
    have lt : (bs.filter fun b => decide (b.n ∈ as.map Ln.n)).length < bs.length := by
      apply Classical.byContradiction
      intro z
      have : bs.filter (fun b => decide (b.n ∈ as.map Ln.n)) = bs := List.Sublist.eq_of_length List.filter_sublist (by omega)
      exact m fun b hb => by
        have h := List.filter_eq_self.mp this b hb
        exact of_decide_eq_true h
    unfold hrd
    rw [io, Bool.false_and]
    simp [-Re.bind, ↓bind_m, big, fnB, start0, endB, bors, Slot.lent, dLt, dGt, dGe, dLe, dAdd, dSub, dMul, dMod, dDiv, dNeg, fInt, dIx, atI, fLen, dLen, fTuple, wipeE, restE, noMut, itemsD, dSl, ixN, -List.map_map, -List.mem_map, -List.all_map, m__law_is_harder, c1, c2, lA, lB, lt, Cell.frz]
end
end Dw


set_option Elab.async false
set_option linter.all false
set_option maxRecDepth 100000
set_option maxHeartbeats 4000000
/-! harder tasks: easier ones, drawn -/
namespace Dw
open PySem PySem.Spec PyProof.Rows L2 Gd Dx
abbrev shortB : D → SV := bodyD (tTup 3 (tCons (tName 4) (tCons (tName 5) (tCons (tName 6) tNil)))) (sSeq (sAsg (eBi fMax (aCons (eV 3) (aCons (eOp dSub (eV 4) (eCallB m__law_draw 0 (aCons (eC (.int 2)) aNil))) aNil))) (tName 7))
  (sSeq (sAsg (eOp dAdd (eOp dAdd (eV 7) (eC (.int 1))) (eCallB m__law_draw 0 (aCons (eOp dSub (eV 5) (eV 4)) aNil))) (tName 8))
  (sIf (bAnd (bOf (eOp dGt (eCallB m__law_draw 0 (aCons (eC (.int 4)) aNil)) (eC (.int 0)))) (bOf (eOp dLt (eV 8) (eOp dIx (eV 1) (eC (.int 1)))))) (sSeq (sApp 2 (eTup (aCons (eV 7) (aCons (eV 8) (aCons (eV 6) aNil)))))
  (sAsg (eV 8) (tName 3))) sNil)))
structure Sh (all : List D) (L : Int) (found : List D) (before : Int) : Prop where
  g : ∀ y ∈ found, GoodX y
  c : chainB L 0 found = true
  l : lastE 0 found ≤ before
  b : 0 ≤ before
  lg : ∀ y ∈ found, longer all y = true
theorem longer_mem {all : List D} {b e f k : Int} {z : Str} (h : D.tup [.int b, .int e, .str z] ∈ all) (hk : k - f ≤ e - b) : longer all (.tup [.int f, .int k, .str z]) = true := by
  unfold longer
  rw [List.any_eq_true]
  exact ⟨_, h, by rw [Bool.and_eq_true, decide_eq_true_eq, decide_eq_true_eq]; exact ⟨rfl, hk⟩⟩
theorem short_loop {l : Ln} {all : List D} {hi : Int} (h100 : hi ≤ 100) : ∀ (xs : List D) (free : Int) (c : Cell) (found : List D) (before : Int) (s4 s5 s6 s7 s8 : Slot), StOk c → (∀ x ∈ xs, GoodX x ∧ x ∈ all) → chainB hi free xs = true → 0 ≤ free → Sh all l.L found before → found.length + xs.length ≤ 8 →
    ((s4 = .no ∧ s5 = .no ∧ s6 = .no ∧ s7 = .no ∧ s8 = .no) ∨ ∃ a b c d e, s4 = .dat a ∧ s5 = .dat b ∧ s6 = .dat c ∧ s7 = .dat d ∧ s8 = .dat e) →
    ∃ c' found' t3 t4 t5 t6 t7 t8, forD shortB xs [.bor c, .dat l.d, .own (.lst found), .dat (.int before), s4, s5, s6, s7, s8] = .ok .nx [.bor c', .dat l.d, .own (.lst found'), t3, t4, t5, t6, t7, t8] ∧ StOk c' ∧
      (∀ y ∈ found', GoodX y) ∧ chainB l.L 0 found' = true ∧ found'.length ≤ found.length + xs.length ∧ ∀ y ∈ found', longer all y = true
  | [], free, c, found, before, s4, s5, s6, s7, s8, w, _, _, _, S, _, _ => ⟨c, found, _, _, _, _, _, _, rfl, w, S.g, S.c, Nat.le_refl _, S.lg⟩
  | x :: r, free, c, found, before, s4, s5, s6, s7, s8, w, hx, hc, hf, S, hn, hs => by
    obtain ⟨⟨b, e, z, rfl, hz⟩, ha⟩ := hx _ List.mem_cons_self
    simp only [chainB, Bool.and_eq_true, decide_eq_true_eq] at hc
    obtain ⟨⟨⟨h1, h2⟩, h3⟩, h4⟩ := hc
    rw [List.length_cons] at hn
    obtain ⟨r1, c1, e1, a0, a1, w1⟩ := draw_ok w (n := 2) (by decide) (by decide)
    obtain ⟨r2, c2, e2, b0, b1, w2⟩ := draw_ok w1 (n := e - b) (by omega) (by omega)
    obtain ⟨r3, c3, e3, g0, g1, w3⟩ := draw_ok w2 (n := 4) (by decide) (by decide)
    obtain ⟨f, fm, f1⟩ : ∃ f : Int, fMax [.int before, .int (b - r1)] = some (.int f) ∧ before ≤ f := ⟨_, rfl, by split <;> omega⟩
    have fl : found.length < 1000000 := by omega
    by_cases q : 0 < r3 ∧ f + 1 + r2 < l.L
    · obtain ⟨k1, k2⟩ := chain_app (l := .str z) found 0 S.g S.c (b := f) (e := f + 1 + r2) (by have := S.l; omega) (by omega) q.2
      have S' : Sh all l.L (found ++ [.tup [.int f, .int (f + 1 + r2), .str z]]) (f + 1 + r2) := by
        refine ⟨fun y hy => ?_, k1, by rw [k2]; omega, by have := S.b; omega, fun y hy => ?_⟩
        · rcases List.mem_append.mp hy with hy | hy
          · exact S.g y hy
          · rw [List.mem_singleton.mp hy]; exact ⟨_, _, _, rfl, hz⟩
        · rcases List.mem_append.mp hy with hy | hy
          · exact S.lg y hy
          · rw [List.mem_singleton.mp hy]; exact longer_mem ha (by omega)
      have st : shortB (.tup [.int b, .int e, .str z]) [.bor c, .dat l.d, .own (.lst found), .dat (.int before), s4, s5, s6, s7, s8] = .ok .nx [.bor c3, .dat l.d, .own (.lst (found ++ [.tup [.int f, .int (f + 1 + r2), .str z]])), .dat (.int (f + 1 + r2)), .dat (.int b), .dat (.int e), .dat (.str z), .dat (.int f), .dat (.int (f + 1 + r2))] := by
        rcases hs with ⟨rfl, rfl, rfl, rfl, rfl⟩ | ⟨_, _, _, _, _, rfl, rfl, rfl, rfl, rfl⟩ <;> simp [-Re.bind, ↓bind_m, big, fnB, start0, endB, bors, Slot.lent, dLt, dGt, dGe, dLe, dAdd, dSub, dMul, dMod, dDiv, dNeg, fInt, dIx, atI, fLen, dLen, fTuple, wipeE, restE, noMut, itemsD, dSl, ixN, Ln.d, e1, e2, e3, fm, q.1, q.2, fl, isLstC, withC]
      obtain ⟨c', fo, t3, t4, t5, t6, t7, t8, g, w', o1, o2, o3, o4⟩ := short_loop h100 (l := l) r e c3 _ (f + 1 + r2) (.dat (.int b)) (.dat (.int e)) (.dat (.str z)) (.dat (.int f)) (.dat (.int (f + 1 + r2))) w3 (fun y hy => hx y (List.mem_cons_of_mem _ hy)) h4 (by omega) S' (by rw [List.length_append, List.length_singleton]; omega) (.inr ⟨_, _, _, _, _, rfl, rfl, rfl, rfl, rfl⟩)
      refine ⟨c', fo, t3, t4, t5, t6, t7, t8, by simp only [forD, st, g], w', o1, o2, ?_, o4⟩
      rw [List.length_append, List.length_singleton] at o3
      rw [List.length_cons]
      omega
    · have st : shortB (.tup [.int b, .int e, .str z]) [.bor c, .dat l.d, .own (.lst found), .dat (.int before), s4, s5, s6, s7, s8] = .ok .nx [.bor c3, .dat l.d, .own (.lst found), .dat (.int before), .dat (.int b), .dat (.int e), .dat (.str z), .dat (.int f), .dat (.int (f + 1 + r2))] := by
        by_cases q1 : 0 < r3
        · have q2 : ¬ f + 1 + r2 < l.L := fun z => q ⟨q1, z⟩
          rcases hs with ⟨rfl, rfl, rfl, rfl, rfl⟩ | ⟨_, _, _, _, _, rfl, rfl, rfl, rfl, rfl⟩ <;> simp [-Re.bind, ↓bind_m, big, fnB, start0, endB, bors, Slot.lent, dLt, dGt, dGe, dLe, dAdd, dSub, dMul, dMod, dDiv, dNeg, fInt, dIx, atI, fLen, dLen, fTuple, wipeE, restE, noMut, itemsD, dSl, ixN, Ln.d, e1, e2, e3, fm, q1, q2]
        · rcases hs with ⟨rfl, rfl, rfl, rfl, rfl⟩ | ⟨_, _, _, _, _, rfl, rfl, rfl, rfl, rfl⟩ <;> simp [-Re.bind, ↓bind_m, big, fnB, start0, endB, bors, Slot.lent, dLt, dGt, dGe, dLe, dAdd, dSub, dMul, dMod, dDiv, dNeg, fInt, dIx, atI, fLen, dLen, fTuple, wipeE, restE, noMut, itemsD, dSl, ixN, Ln.d, e1, e2, e3, fm, q1]
      obtain ⟨c', fo, t3, t4, t5, t6, t7, t8, g, w', o1, o2, o3, o4⟩ := short_loop h100 (l := l) r e c3 found before (.dat (.int b)) (.dat (.int e)) (.dat (.str z)) (.dat (.int f)) (.dat (.int (f + 1 + r2))) w3 (fun y hy => hx y (List.mem_cons_of_mem _ hy)) h4 (by omega) S (by omega) (.inr ⟨_, _, _, _, _, rfl, rfl, rfl, rfl, rfl⟩)
      exact ⟨c', fo, t3, t4, t5, t6, t7, t8, by simp only [forD, st, g], w', o1, o2, by rw [List.length_cons]; omega, o4⟩
theorem short_ok {c : Cell} (w : StOk c) {l : Ln} {hi : Int} (h100 : hi ≤ 100) (hx : ∀ x ∈ l.xs, GoodX x) (hc : chainB hi 0 l.xs = true) (hn : l.xs.length ≤ 8) :
    ∃ ys c', m__law_short [c] [l.d] = .ok (.tup ys) [c'] ∧ StOk c' ∧ (∀ y ∈ ys, GoodX y) ∧ chainB l.L 0 ys = true ∧ ys.length ≤ l.xs.length ∧ ∀ y ∈ ys, longer l.xs y = true := by
  obtain ⟨c', fo, t3, t4, t5, t6, t7, t8, g, w', o1, o2, o3, o4⟩ := short_loop h100 (l := l) (all := l.xs) l.xs 0 c [] 0 .no .no .no .no .no w (fun x h => ⟨hx x h, h⟩) hc (Int.le_refl _) ⟨(fun _ z => nomatch z), rfl, Int.le_refl _, Int.le_refl _, (fun _ z => nomatch z)⟩ (by rw [List.length_nil]; omega) (.inl ⟨rfl, rfl, rfl, rfl, rfl⟩)
  rw [List.length_nil, Nat.zero_add] at o3
  refine ⟨fo, c', ?_, w', o1, o2, o3, o4⟩
  have e5 : eOp dIx (eV 1) (eC (.int 5)) [.bor c, .dat l.d, .own (.lst []), .dat (.int 0), .no, .no, .no, .no, .no] = .ok (.tup l.xs) [.bor c, .dat l.d, .own (.lst []), .dat (.int 0), .no, .no, .no, .no, .no] := by simp [-Re.bind, ↓bind_m, big, fnB, start0, endB, bors, Slot.lent, dLt, dGt, dGe, dLe, dAdd, dSub, dMul, dMod, dDiv, dNeg, fInt, dIx, atI, fLen, dLen, fTuple, wipeE, restE, noMut, itemsD, dSl, ixN, Ln.d]
  have fo6 : fo.length ≤ 1000000 := by omega
  simp [-Re.bind, ↓bind_m, big, fnB, start0, endB, bors, Slot.lent, dLt, dGt, dGe, dLe, dAdd, dSub, dMul, dMod, dDiv, dNeg, fInt, dIx, atI, fLen, dLen, fTuple, wipeE, restE, noMut, itemsD, dSl, ixN, -eOp, m__law_short, runM, Cell.plain, okSet, putS, e5, g, fo6]
end Dw


set_option Elab.async false
set_option linter.all false
set_option maxRecDepth 100000
set_option maxHeartbeats 4000000
/-! harder tasks: easier ones, drawn: all tasks -/
namespace Dw
open PySem PySem.Spec PyProof.Rows L2 Gd Dx
structure Ln.wk (l : Ln) (k : Int) : Prop where
  n : l.n ∈ nmS
  L0 : 1 ≤ l.L
  L1 : l.L ≤ 9
  g0 : 1 ≤ l.g
  g1 : l.g ≤ 97 + 10 * k
  d0 : 1 ≤ l.dl
  d1 : l.dl ≤ 300 + 10 * k
  r0 : 0 ≤ l.r
  r1 : l.r ≤ 6
  x : ∀ x ∈ l.xs, GoodX x
  c : chainB l.L 0 l.xs = true
  l3 : l.xs.length ≤ 3
  p0 : 1 ≤ l.p
  w : 10 * l.L ≤ l.p * l.g
theorem Ln.ok.wk {l : Ln} (h : l.ok) : l.wk 0 := ⟨h.n, h.L0, h.L1, h.g0, by have := h.g1; omega, h.d0, by have := h.d1; omega, h.r0, h.r1, h.x, h.c, h.l3, h.p0, h.w⟩
theorem Ln.wk.fine {l : Ln} {k : Int} (h : l.wk k) (hk : k ≤ 5) : l.fine :=
  ⟨nm_name h.n, h.L0, by have := h.L1; omega, h.g0, by have := h.g1; omega, h.d0, by have := h.d1; omega, h.r0, by have := h.r1; omega, fun x hx => (h.x x hx).y, h.c, by have := h.l3; omega⟩
structure Ez (k : Int) (l e : Ln) : Prop where
  n : e.n = l.n
  p : e.p = l.p
  k : e.wk (k + 1)
  h : hardT l e = true
/-- a line eased, with a section's part -/
theorem ease_ok {c : Cell} (w : StOk c) {l : Ln} {k : Int} (h : l.wk k) (hk : k ≤ 5) {high wide due weight : Int} (a0 : 1 ≤ high) (a1 : high ≤ l.L) (b0 : l.g ≤ wide) (b1 : wide ≤ l.g + 6) (d0 : l.dl ≤ due) (d1 : due ≤ l.dl + 9) (r0 : 0 ≤ weight) (r1 : weight ≤ l.r) :
    ∃ ys c', m__law_short [c] [.tup [.str l.n, .int high, .int wide, .int due, .int weight, .tup l.xs]] = .ok (.tup ys) [c'] ∧ StOk c' ∧ Ez k l ⟨l.n, high, wide, due, weight, ys, l.p⟩ := by
  have l3 := h.l3
  have L1 := h.L1
  have g0 := h.g0
  have g1 := h.g1
  have e0 := h.d0
  have e1 := h.d1
  have f1 := h.r1
  have p0 := h.p0
  have ww := h.w
  obtain ⟨ys, c', g, w', o1, o2, o3, o4⟩ := short_ok w (l := ⟨l.n, high, wide, due, weight, l.xs, l.p⟩) (hi := l.L) (by omega) h.x h.c (by show l.xs.length ≤ 8; omega)
  have o3 : ys.length ≤ l.xs.length := o3
  have lw : l.p * l.g ≤ l.p * wide := Int.mul_le_mul_of_nonneg_left b0 (by omega)
  refine ⟨ys, c', g, w', rfl, rfl, ⟨h.n, a0, by show high ≤ 9; omega, by show 1 ≤ wide; omega, by show wide ≤ _; omega, by show 1 ≤ due; omega, by show due ≤ _; omega, r0, by show weight ≤ 6; omega, o1, o2, by show ys.length ≤ 3; omega, p0, by show 10 * high ≤ l.p * wide; omega⟩, ?_⟩
  have x1 : ¬ l.L < high := by omega
  have x2 : ¬ l.r < weight := by omega
  have x3 : ¬ wide < l.g := by omega
  have x4 : ¬ due < l.dl := by omega
  have x5 : ys.all (longer l.xs) = true := List.all_eq_true.mpr o4
  simp only [hardT, x1, x2, x3, x4, x5, decide_false, Bool.or_self, Bool.not_false, Bool.and_self]
inductive Esr (k : Int) : List Ln → List Ln → Prop
  | nil : Esr k [] []
  | skip {l : Ln} {as es : List Ln} : Esr k as es → Esr k (l :: as) es
  | keep {l e : Ln} {as es : List Ln} : Ez k l e → Esr k as es → Esr k (l :: as) (e :: es)
theorem pick3 {c : Cell} (w : StOk c) (a b d : Int) : ∃ v c', m__law_pick [c] [.lst [.int a, .int b, .int d]] = .ok (.int v) [c'] ∧ (v = a ∨ v = b ∨ v = d) ∧ StOk c' := by
  obtain ⟨x, c', e, m, w'⟩ := pick_ok w (xs := [.int a, .int b, .int d]) (by simp [-Re.bind, ↓bind_m, big, fnB, start0, endB, bors, Slot.lent, dLt, dGt, dGe, dLe, dAdd, dSub, dMul, dMod, dDiv, dNeg, fInt, dIx, atI, fLen, dLen, fTuple, wipeE, restE, noMut, itemsD, dSl, ixN]) (by simp [-Re.bind, ↓bind_m, big, fnB, start0, endB, bors, Slot.lent, dLt, dGt, dGe, dLe, dAdd, dSub, dMul, dMod, dDiv, dNeg, fInt, dIx, atI, fLen, dLen, fTuple, wipeE, restE, noMut, itemsD, dSl, ixN])
  simp only [List.mem_cons, List.not_mem_nil, or_false] at m
  rcases m with rfl | rfl | rfl
  · exact ⟨a, c', e, .inl rfl, w'⟩
  · exact ⟨b, c', e, .inr (.inl rfl), w'⟩
  · exact ⟨d, c', e, .inr (.inr rfl), w'⟩
theorem pick4 {c : Cell} (w : StOk c) (a b d f : Int) : ∃ v c', m__law_pick [c] [.lst [.int a, .int b, .int d, .int f]] = .ok (.int v) [c'] ∧ (v = a ∨ v = b ∨ v = d ∨ v = f) ∧ StOk c' := by
  obtain ⟨x, c', e, m, w'⟩ := pick_ok w (xs := [.int a, .int b, .int d, .int f]) (by simp [-Re.bind, ↓bind_m, big, fnB, start0, endB, bors, Slot.lent, dLt, dGt, dGe, dLe, dAdd, dSub, dMul, dMod, dDiv, dNeg, fInt, dIx, atI, fLen, dLen, fTuple, wipeE, restE, noMut, itemsD, dSl, ixN]) (by simp [-Re.bind, ↓bind_m, big, fnB, start0, endB, bors, Slot.lent, dLt, dGt, dGe, dLe, dAdd, dSub, dMul, dMod, dDiv, dNeg, fInt, dIx, atI, fLen, dLen, fTuple, wipeE, restE, noMut, itemsD, dSl, ixN])
  simp only [List.mem_cons, List.not_mem_nil, or_false] at m
  rcases m with rfl | rfl | rfl | rfl
  · exact ⟨a, c', e, .inl rfl, w'⟩
  · exact ⟨b, c', e, .inr (.inl rfl), w'⟩
  · exact ⟨d, c', e, .inr (.inr (.inl rfl)), w'⟩
  · exact ⟨f, c', e, .inr (.inr (.inr rfl)), w'⟩
abbrev easeB : D → SV := bodyD (tName 4) (sSeq (sAsg (eCallB m__law_pick 0 (aCons (eLst (aCons (eOp dIx (eV 4) (eC (.int 1))) (aCons (eOp dIx (eV 4) (eC (.int 1))) (aCons (eOp dAdd (eC (.int 1)) (eCallB m__law_draw 0 (aCons (eOp dIx (eV 4) (eC (.int 1))) aNil))) aNil)))) aNil)) (tName 5))
  (sSeq (sPar 8 9 (aCons (eOp dAdd (eOp dIx (eV 4) (eC (.int 2))) (eCallB m__law_pick 0 (aCons (eLst (aCons (eC (.int 0)) (aCons (eC (.int 0)) (aCons (eC (.int 1)) (aCons (eC (.int 6)) aNil))))) aNil))) (aCons (eOp dAdd (eOp dIx (eV 4) (eC (.int 3))) (eCallB m__law_pick 0 (aCons (eLst (aCons (eC (.int 0)) (aCons (eC (.int 0)) (aCons (eC (.int 1)) (aCons (eC (.int 9)) aNil))))) aNil))) aNil)))
  (sSeq (sAsg (eCallB m__law_pick 0 (aCons (eLst (aCons (eOp dIx (eV 4) (eC (.int 4))) (aCons (eOp dIx (eV 4) (eC (.int 4))) (aCons (eCallB m__law_draw 0 (aCons (eOp dAdd (eOp dIx (eV 4) (eC (.int 4))) (eC (.int 1))) aNil)) aNil)))) aNil)) (tName 6))
  (sSeq (sAsg (eTup (aCons (eOp dIx (eV 4) (eC (.int 0))) (aCons (eV 5) (aCons (eV 8) (aCons (eV 9) (aCons (eV 6) (aCons (eOp dIx (eV 4) (eC (.int 5))) aNil))))))) (tName 7))
  (sSeq (sAsg (eOp dAdd (eSl (eV 7) oNo (oSo (eC (.int 5)))) (eTup (aCons (eCallB m__law_short 0 (aCons (eV 7) aNil)) aNil))) (tName 7))
  (sIf (bOr (bNot (bTru (eV 2))) (bOf (eOp dGt (eCallB m__law_draw 0 (aCons (eC (.int 4)) aNil)) (eC (.int 0))))) (sApp 3 (eV 7)) sNil))))))
theorem cut5 (a b c d e f : D) : cutG [a, b, c, d, e, f] none (some (5 : Int)) = [a, b, c, d, e] := rfl
theorem ease_step {c : Cell} (w : StOk c) {all : D} {part : Bool} {found : List D} (fl : found.length < 100) {l : Ln} {k : Int} (h : l.wk k) (hk : k ≤ 5) {s4 s5 s6 s7 s8 s9 : Slot}
    (hs : (s4 = .no ∧ s5 = .no ∧ s6 = .no ∧ s7 = .no ∧ s8 = .no ∧ s9 = .no) ∨ ∃ a b c d e f, s4 = .dat a ∧ s5 = .dat b ∧ s6 = .dat c ∧ s7 = .dat d ∧ s8 = .dat e ∧ s9 = .dat f) :
    ∃ c' e t5 t6 t7 t8 t9, StOk c' ∧ Ez k l e ∧ (easeB l.d [.bor c, .dat all, .dat (.bl part), .own (.lst found), s4, s5, s6, s7, s8, s9] = .ok .nx [.bor c', .dat all, .dat (.bl part), .own (.lst (found ++ [e.d])), .dat l.d, .dat t5, .dat t6, .dat t7, .dat t8, .dat t9] ∨
      part = true ∧ easeB l.d [.bor c, .dat all, .dat (.bl part), .own (.lst found), s4, s5, s6, s7, s8, s9] = .ok .nx [.bor c', .dat all, .dat (.bl part), .own (.lst found), .dat l.d, .dat t5, .dat t6, .dat t7, .dat t8, .dat t9]) := by
  have L0 := h.L0
  have L1 := h.L1
  have R0 := h.r0
  have R1 := h.r1
  obtain ⟨d1, c1, e1, a0, a1, w1⟩ := draw_ok w (n := l.L) (by omega) (by omega)
  obtain ⟨high, c2, e2, hh, w2⟩ := pick3 w1 l.L l.L (1 + d1)
  obtain ⟨v1, c3, e3, h1, w3⟩ := pick4 w2 0 0 1 6
  obtain ⟨v2, c4, e4, h2, w4⟩ := pick4 w3 0 0 1 9
  obtain ⟨d2, c5, e5, b0, b1, w5⟩ := draw_ok w4 (n := l.r + 1) (by omega) (by omega)
  obtain ⟨weight, c6, e6, hw, w6⟩ := pick3 w5 l.r l.r d2
  obtain ⟨ys, c7, e7, w7, ez⟩ := ease_ok w6 h hk (high := high) (wide := l.g + v1) (due := l.dl + v2) (weight := weight) (by omega) (by omega) (by omega) (by omega) (by omega) (by omega) (by omega) (by omega)
  obtain ⟨d3, c8, e8, f0, f1, w8⟩ := draw_ok w7 (n := 4) (by decide) (by decide)
  have fl2 : found.length < 1000000 := by omega
  have h1 : (1 : Int) ≤ high := by omega
  cases part with
  | false =>
    refine ⟨c7, _, .int high, .int weight, .tup [.str l.n, .int high, .int (l.g + v1), .int (l.dl + v2), .int weight, .tup ys], .int (l.g + v1), .int (l.dl + v2), w7, ez, .inl ?_⟩
    rcases hs with ⟨rfl, rfl, rfl, rfl, rfl, rfl⟩ | ⟨_, _, _, _, _, _, rfl, rfl, rfl, rfl, rfl, rfl⟩ <;> simp [-Re.bind, ↓bind_m, big, fnB, start0, endB, bors, Slot.lent, dLt, dGt, dGe, dLe, dAdd, dSub, dMul, dMod, dDiv, dNeg, fInt, dIx, atI, fLen, dLen, fTuple, wipeE, restE, noMut, itemsD, dSl, ixN, Ln.d, e1, e2, e3, e4, e5, e6, e7, cut5, fl2, isLstC, withC, truD]
  | true =>
    refine ⟨c8, _, .int high, .int weight, .tup [.str l.n, .int high, .int (l.g + v1), .int (l.dl + v2), .int weight, .tup ys], .int (l.g + v1), .int (l.dl + v2), w8, ez, ?_⟩
    by_cases q : 0 < d3
    · refine .inl ?_
      rcases hs with ⟨rfl, rfl, rfl, rfl, rfl, rfl⟩ | ⟨_, _, _, _, _, _, rfl, rfl, rfl, rfl, rfl, rfl⟩ <;> simp [-Re.bind, ↓bind_m, big, fnB, start0, endB, bors, Slot.lent, dLt, dGt, dGe, dLe, dAdd, dSub, dMul, dMod, dDiv, dNeg, fInt, dIx, atI, fLen, dLen, fTuple, wipeE, restE, noMut, itemsD, dSl, ixN, Ln.d, e1, e2, e3, e4, e5, e6, e7, e8, cut5, fl2, isLstC, withC, truD, q]
    · refine .inr ⟨rfl, ?_⟩
      rcases hs with ⟨rfl, rfl, rfl, rfl, rfl, rfl⟩ | ⟨_, _, _, _, _, _, rfl, rfl, rfl, rfl, rfl, rfl⟩ <;> simp [-Re.bind, ↓bind_m, big, fnB, start0, endB, bors, Slot.lent, dLt, dGt, dGe, dLe, dAdd, dSub, dMul, dMod, dDiv, dNeg, fInt, dIx, atI, fLen, dLen, fTuple, wipeE, restE, noMut, itemsD, dSl, ixN, Ln.d, e1, e2, e3, e4, e5, e6, e7, e8, cut5, fl2, isLstC, withC, truD, q]
theorem ease_loop {all : D} {part : Bool} {k : Int} (hk : k ≤ 5) : ∀ (as : List Ln) (c : Cell) (found : List D) (s4 s5 s6 s7 s8 s9 : Slot), StOk c → (∀ l ∈ as, l.wk k) → found.length + as.length ≤ 100 →
    ((s4 = .no ∧ s5 = .no ∧ s6 = .no ∧ s7 = .no ∧ s8 = .no ∧ s9 = .no) ∨ ∃ a b c d e f, s4 = .dat a ∧ s5 = .dat b ∧ s6 = .dat c ∧ s7 = .dat d ∧ s8 = .dat e ∧ s9 = .dat f) →
    ∃ c' es t4 t5 t6 t7 t8 t9, forD easeB (as.map Ln.d) [.bor c, .dat all, .dat (.bl part), .own (.lst found), s4, s5, s6, s7, s8, s9] = .ok .nx [.bor c', .dat all, .dat (.bl part), .own (.lst (found ++ es.map Ln.d)), t4, t5, t6, t7, t8, t9] ∧ StOk c' ∧ Esr k as es
  | [], c, found, s4, s5, s6, s7, s8, s9, w, _, _, _ => ⟨c, [], _, _, _, _, _, _, by simp only [List.map_nil, List.append_nil]; rfl, w, .nil⟩
  | l :: r, c, found, s4, s5, s6, s7, s8, s9, w, h, hn, hs => by
    rw [List.length_cons] at hn
    obtain ⟨c1, e, t5, t6, t7, t8, t9, w1, ez, st⟩ := ease_step w (all := all) (part := part) (found := found) (by omega) (h l List.mem_cons_self) hk hs
    rcases st with st | ⟨_, st⟩
    · obtain ⟨c', es, u4, u5, u6, u7, u8, u9, g, w', R⟩ := ease_loop hk (all := all) (part := part) r c1 (found ++ [e.d]) (.dat l.d) (.dat t5) (.dat t6) (.dat t7) (.dat t8) (.dat t9) w1 (fun x hx => h x (List.mem_cons_of_mem _ hx)) (by rw [List.length_append, List.length_singleton]; omega) (.inr ⟨_, _, _, _, _, _, rfl, rfl, rfl, rfl, rfl, rfl⟩)
      exact ⟨c', e :: es, u4, u5, u6, u7, u8, u9, by simp only [List.map_cons, forD, st, g, List.append_assoc, List.singleton_append], w', .keep ez R⟩
    · obtain ⟨c', es, u4, u5, u6, u7, u8, u9, g, w', R⟩ := ease_loop hk (all := all) (part := part) r c1 found (.dat l.d) (.dat t5) (.dat t6) (.dat t7) (.dat t8) (.dat t9) w1 (fun x hx => h x (List.mem_cons_of_mem _ hx)) (by omega) (.inr ⟨_, _, _, _, _, _, rfl, rfl, rfl, rfl, rfl, rfl⟩)
      exact ⟨c', es, u4, u5, u6, u7, u8, u9, by simp only [List.map_cons, forD, st, g], w', .skip R⟩
theorem easier_ok {c : Cell} (w : StOk c) {as : List Ln} {k : Int} (hk : k ≤ 5) (h : ∀ l ∈ as, l.wk k) (hn : as.length ≤ 10) (part : Bool) :
    ∃ es c', m__law_easier [c] [.tup (as.map Ln.d), .bl part] = .ok (.tup (es.map Ln.d)) [c'] ∧ StOk c' ∧ Esr k as es := by
  obtain ⟨c', es, t4, t5, t6, t7, t8, t9, g, w', R⟩ := ease_loop (all := .tup (as.map Ln.d)) (part := part) hk as c [] .no .no .no .no .no .no w h (by rw [List.length_nil]; omega) (.inl ⟨rfl, rfl, rfl, rfl, rfl, rfl⟩)
  rw [List.nil_append] at g
  have le : es.length ≤ as.length := by
    clear g w'
    induction R with
    | nil => exact Nat.le_refl _
    | skip _ ih => rw [List.length_cons]; have := ih (fun x hx => h x (List.mem_cons_of_mem _ hx)) (by rw [List.length_cons] at hn; omega); omega
    | keep _ _ ih => rw [List.length_cons, List.length_cons]; have := ih (fun x hx => h x (List.mem_cons_of_mem _ hx)) (by rw [List.length_cons] at hn; omega); omega
  refine ⟨es, c', ?_, w', R⟩
  have l6 : es.length ≤ 1000000 := by omega
  simp [-Re.bind, ↓bind_m, big, fnB, start0, endB, bors, Slot.lent, dLt, dGt, dGe, dLe, dAdd, dSub, dMul, dMod, dDiv, dNeg, fInt, dIx, atI, fLen, dLen, fTuple, wipeE, restE, noMut, itemsD, dSl, ixN, m__law_easier, g, l6]
end Dw


set_option Elab.async false
set_option linter.all false
set_option maxRecDepth 100000
set_option maxHeartbeats 4000000
/-! harder tasks: sets that stand together -/
namespace Dw
open PySem PySem.Spec PyProof.Rows L2 Gd Dx
structure Tw (ls : List Ln) : Prop where
  f : ∀ l ∈ ls, l.fine ∧ l.xs.length ≤ 6 ∧ 10 * l.L ≤ l.p * l.g ∧ 1 ≤ l.p
  nd : (ls.map Ln.n).Nodup
  n : ls.length ≤ 10
  s : (ls.map Ln.p).sum ≤ 9
theorem Tw.ok {ls : List Ln} (h : Tw ls) : TsOk ls := ⟨fun x hx => ⟨(h.f x hx).1, (h.f x hx).2.1⟩, h.nd, h.n, load_ok (fun x hx => (h.f x hx).1) h.n (fun x hx => (h.f x hx).2.2.1) h.s⟩
theorem sum_sub : ∀ {as bs : List Int}, as.Sublist bs → (∀ x ∈ bs, 0 ≤ x) → as.sum ≤ bs.sum
  | _, _, .slnil, _ => Int.le_refl _
  | _, _, .cons a s, h => by
    have := sum_sub s fun x hx => h x (List.mem_cons_of_mem _ hx)
    have := h a List.mem_cons_self
    rw [List.sum_cons]; omega
  | _, _, .cons₂ a s, h => by
    have := sum_sub s fun x hx => h x (List.mem_cons_of_mem _ hx)
    rw [List.sum_cons, List.sum_cons]; omega
theorem sum_perm {as bs : List Int} (p : as.Perm bs) : as.sum = bs.sum := by
  induction p with
  | nil => rfl
  | cons x _ ih => rw [List.sum_cons, List.sum_cons, ih]
  | swap x y l => simp only [List.sum_cons]; omega
  | trans _ _ h1 h2 => exact h1.trans h2
theorem Tw.sub {ls ms : List Ln} (h : Tw ls) (s : ms.Sublist ls) : Tw ms :=
  ⟨fun l hl => h.f l (s.subset hl), h.nd.sublist (s.map _), Nat.le_trans s.length_le h.n, Int.le_trans (sum_sub (s.map _) fun x hx => by obtain ⟨l, hl, rfl⟩ := List.mem_map.mp hx; have := (h.f l hl).2.2.2; omega) h.s⟩
theorem Tw.perm {ls ms : List Ln} (h : Tw ls) (p : ms.Perm ls) : Tw ms :=
  ⟨fun l hl => h.f l (p.mem_iff.mp hl), (p.map _).nodup_iff.mpr h.nd, by rw [p.length_eq]; exact h.n, by rw [sum_perm (p.map _)]; exact h.s⟩
theorem set_same {α β : Type} (f : α → β) : ∀ (ls : List α) (i : Nat) (a : α), (∀ h : i < ls.length, f a = f ls[i]) → (ls.set i a).map f = ls.map f
  | [], _, _, _ => rfl
  | x :: r, 0, a, h => by simp only [List.set_cons_zero, List.map_cons]; rw [h (by simp)]; rfl
  | x :: r, i + 1, a, h => by
    simp only [List.set_cons_succ, List.map_cons]
    rw [set_same f r i a fun hi => h (by simpa using hi)]
theorem Tw.set {ls : List Ln} (h : Tw ls) {i : Nat} (hi : i < ls.length) {a : Ln} (f : a.fine ∧ a.xs.length ≤ 6 ∧ 10 * a.L ≤ a.p * a.g) (n : a.n = ls[i].n ∨ a.n ∉ ls.map Ln.n) (p : a.p = ls[i].p) : Tw (ls.set i a) := by
  refine ⟨fun l hl => ?_, ?_, by rw [List.length_set]; exact h.n, by rw [set_same Ln.p ls i a fun _ => p]; exact h.s⟩
  · rcases List.mem_or_eq_of_mem_set hl with hl | rfl
    · exact h.f l hl
    · exact ⟨f.1, f.2.1, f.2.2, by rw [p]; exact (h.f _ (List.getElem_mem hi)).2.2.2⟩
  · rcases n with n | n
    · rw [set_same Ln.n ls i a fun _ => n]; exact h.nd
    · rw [List.map_set, List.set_eq_take_append_cons_drop, if_pos (by rw [List.length_map]; exact hi)]
      have nd := h.nd
      have e : (ls.map Ln.n) = (ls.map Ln.n).take i ++ (ls.map Ln.n)[i]'(by rw [List.length_map]; exact hi) :: (ls.map Ln.n).drop (i + 1) := by
        rw [List.getElem_cons_drop, List.take_append_drop]
      rw [e] at nd
      obtain ⟨n1, n2, n3⟩ := List.nodup_append.mp nd
      obtain ⟨n4, n5⟩ := List.nodup_cons.mp n2
      refine List.nodup_append.mpr ⟨n1, List.nodup_cons.mpr ⟨fun z => n (List.mem_of_mem_drop z), n5⟩, fun x hx y hy => ?_⟩
      rcases List.mem_cons.mp hy with rfl | hy
      · exact fun z => n (z ▸ List.mem_of_mem_take hx)
      · exact n3 x hx y (List.mem_cons_of_mem _ hy)
structure Tk (ls : List Ln) (k : Int) : Prop where
  w : ∀ l ∈ ls, l.wk k
  nd : (ls.map Ln.n).Nodup
  n : ls.length ≤ 8
  s : (ls.map Ln.p).sum ≤ 9
theorem Tk.tw {ls : List Ln} {k : Int} (h : Tk ls k) (hk : k ≤ 5) : Tw ls := ⟨fun l hl => ⟨(h.w l hl).fine hk, by have := (h.w l hl).l3; omega, (h.w l hl).w, (h.w l hl).p0⟩, h.nd, by have := h.n; omega, h.s⟩
section
variable {k : Int}
theorem Esr.names {as es : List Ln} (R : Esr k as es) : (es.map Ln.n).Sublist (as.map Ln.n) := by
  induction R with
  | nil => exact .slnil
  | skip _ ih => exact .cons _ ih
  | keep z _ ih => rw [List.map_cons, List.map_cons, z.n]; exact .cons₂ _ ih
theorem Esr.ps {as es : List Ln} (R : Esr k as es) : (es.map Ln.p).Sublist (as.map Ln.p) := by
  induction R with
  | nil => exact .slnil
  | skip _ ih => exact .cons _ ih
  | keep z _ ih => rw [List.map_cons, List.map_cons, z.p]; exact .cons₂ _ ih
theorem Esr.mem {as es : List Ln} (R : Esr k as es) : ∀ e ∈ es, ∃ l ∈ as, Ez k l e := by
  induction R with
  | nil => intro e h; cases h
  | skip _ ih => intro e h; obtain ⟨l, hl, z⟩ := ih e h; exact ⟨l, List.mem_cons_of_mem _ hl, z⟩
  | keep z _ ih =>
    intro e h
    rcases List.mem_cons.mp h with rfl | h
    · exact ⟨_, List.mem_cons_self, z⟩
    · obtain ⟨l, hl, z⟩ := ih e h; exact ⟨l, List.mem_cons_of_mem _ hl, z⟩
theorem Esr.tk {as es : List Ln} (R : Esr k as es) (T : Tk as k) : Tk es (k + 1) := by
  refine ⟨fun e h => ?_, T.nd.sublist R.names, ?_, Int.le_trans (sum_sub R.ps fun x hx => ?_) T.s⟩
  · obtain ⟨l, _, z⟩ := R.mem e h; exact z.k
  · have := R.names.length_le
    rw [List.length_map, List.length_map] at this
    exact Nat.le_trans this T.n
  · obtain ⟨l, hl, rfl⟩ := List.mem_map.mp hx
    have := (T.w l hl).p0
    omega
theorem one_name : ∀ {as : List Ln}, (as.map Ln.n).Nodup → ∀ {a b : Ln}, a ∈ as → b ∈ as → a.n = b.n → a = b
  | [], _, _, _, h, _, _ => nomatch h
  | x :: r, nd, a, b, ha, hb, e => by
    obtain ⟨n1, n2⟩ := List.nodup_cons.mp nd
    rcases List.mem_cons.mp ha with h1 | h1 <;> rcases List.mem_cons.mp hb with h2 | h2
    · rw [h1, h2]
    · exact absurd (List.mem_map.mpr ⟨b, h2, by rw [← e, h1]⟩) n1
    · exact absurd (List.mem_map.mpr ⟨a, h1, by rw [e, h2]⟩) n1
    · exact one_name n2 h1 h2 e
theorem hrd_of {as es : List Ln} (nd : (as.map Ln.n).Nodup) (s : (es.map Ln.n).Sublist (as.map Ln.n)) (h : ∀ e ∈ es, ∃ l ∈ as, e.n = l.n ∧ hardT l e = true) : hrd as es = true := by
  unfold hrd inO
  rw [Bool.and_eq_true, decide_eq_true_eq]
  refine ⟨(sub_iff nd (nd.sublist s)).mpr ⟨fun m hm => s.subset hm, List.pairwise_map.mpr ((idx_pw nd).sublist s)⟩, List.all_eq_true.mpr fun e he => ?_⟩
  obtain ⟨l, hl, n, q⟩ := h e he
  obtain ⟨a, e1, e2, e3⟩ := atN_ok (as := as) (z := e.n) (s.subset (List.mem_map_of_mem he))
  have : a = l := one_name nd (List.mem_of_getElem? e2) hl (e3.trans n)
  simp only [hAt, e1, this, q]
theorem hardT_self (l : Ln) : hardT l l = true := by
  have x5 : l.xs.all (longer l.xs) = true := List.all_eq_true.mpr fun x hx => by
    unfold longer
    rw [List.any_eq_true]
    exact ⟨x, hx, by simp⟩
  simp [hardT, x5]
end
theorem hrd_self {as : List Ln} (nd : (as.map Ln.n).Nodup) : hrd as as = true := hrd_of nd (List.Sublist.refl _) fun e he => ⟨e, he, rfl, hardT_self e⟩
theorem Esr.hrd {k : Int} {as es : List Ln} (R : Esr k as es) (T : Tk as k) : hrd as es = true := hrd_of T.nd R.names fun e he => by
  obtain ⟨l, hl, z⟩ := R.mem e he
  exact ⟨l, hl, z.n, z.h⟩
end Dw


set_option Elab.async false
set_option linter.all false
set_option maxRecDepth 100000
set_option maxHeartbeats 4000000
/-! harder tasks: bent ones -/
namespace Dw
open PySem PySem.Spec PyProof.Rows L2 Gd Dx
theorem dEq_nilT {xs : List D} (h : pl 16 (.tup xs) = true) : dEq (.tup xs) (.tup []) = some (.bl (xs.isEmpty)) := by
  unfold dEq
  rw [if_pos ⟨h, rfl⟩]
  cases xs <;> rfl
theorem dNe_nilT {xs : List D} (h : pl 16 (.tup xs) = true) : dNe (.tup xs) (.tup []) = some (.bl (!xs.isEmpty)) := by
  unfold dNe
  rw [if_pos ⟨h, rfl⟩]
  cases xs <;> rfl
theorem chain_low {hi : Int} : ∀ {xs : List D} {free free' : Int}, chainB hi free xs = true → free' ≤ free → chainB hi free' xs = true
  | [], _, _, _, _ => rfl
  | .tup [.int b, .int e, l] :: r, free, free', h, hf => by
    simp only [chainB, Bool.and_eq_true, decide_eq_true_eq] at h ⊢
    exact ⟨⟨⟨by omega, h.1.1.2⟩, h.1.2⟩, h.2⟩
def lockd : D → D
  | .tup [b, e, _] => .tup [b, e, .str "locked"]
  | d => d
theorem chain_lockd {hi : Int} : ∀ {xs : List D} {free : Int}, (∀ x ∈ xs, GoodX x) → chainB hi free xs = true → chainB hi free (xs.map lockd) = true
  | [], _, _, _ => rfl
  | x :: r, free, hx, h => by
    obtain ⟨b, e, z, rfl, _⟩ := hx x List.mem_cons_self
    simp only [chainB, List.map_cons, lockd, Bool.and_eq_true] at h ⊢
    exact ⟨h.1, chain_lockd (fun y hy => hx y (List.mem_cons_of_mem _ hy)) h.2⟩
theorem locked_name : nameB (.str "locked") = true := by decide +kernel
theorem fresh_name : nameB (.str "fresh") = true := by decide +kernel
theorem fresh_nm : ("fresh" : Str) ∉ nmS := by decide +kernel
theorem cF3 (a b c d e f : D) : cutG [a, b, c, d, e, f] (some (3 : Int)) none = [d, e, f] := rfl
theorem cF4 (a b c d e f : D) : cutG [a, b, c, d, e, f] (some (4 : Int)) none = [e, f] := rfl
theorem cF5 (a b c d e f : D) : cutG [a, b, c, d, e, f] (some (5 : Int)) none = [f] := rfl
theorem cF1 (a b c d e f : D) : cutG [a, b, c, d, e, f] (some (1 : Int)) none = [b, c, d, e, f] := rfl
theorem cT2 (a b c d e f : D) : cutG [a, b, c, d, e, f] none (some (2 : Int)) = [a, b] := rfl
theorem cT3 (a b c d e f : D) : cutG [a, b, c, d, e, f] none (some (3 : Int)) = [a, b, c] := rfl
theorem cT4 (a b c d e f : D) : cutG [a, b, c, d, e, f] none (some (4 : Int)) = [a, b, c, d] := rfl
/-- what a bent line keeps -/
structure Bn (l e : Ln) : Prop where
  n : e.n = l.n
  p : e.p = l.p
  f : e.fine ∧ e.xs.length ≤ 6 ∧ 10 * e.L ≤ e.p * e.g
theorem bent_line_ok {c : Cell} (w : StOk c) {l : Ln} {k : Int} (h : l.wk k) (hk : k ≤ 5) : ∃ e c', m__law_bent_line [c] [l.d] = .ok e.d [c'] ∧ StOk c' ∧ Bn l e := by
  obtain ⟨lot, c1, e1, a0, a1, w1⟩ := draw_ok w (n := 6) (by decide) (by decide)
  obtain ⟨st, c2, e2, hst, w2⟩ : ∃ st c2, m__law_pick [c1] [.lst [.int (-1), .int 1]] = .ok (.int st) [c2] ∧ (st = -1 ∨ st = 1) ∧ StOk c2 := by
    obtain ⟨x, c', e, m, w'⟩ := pick_ok w1 (xs := [.int (-1), .int 1]) (by simp [-Re.bind, ↓bind_m, big, fnB, start0, endB, bors, Slot.lent, dLt, dGt, dGe, dLe, dAdd, dSub, dMul, dMod, dDiv, dNeg, fInt, dIx, atI, fLen, dLen, fTuple, wipeE, restE, noMut, itemsD, dSl, ixN]) (by simp [-Re.bind, ↓bind_m, big, fnB, start0, endB, bors, Slot.lent, dLt, dGt, dGe, dLe, dAdd, dSub, dMul, dMod, dDiv, dNeg, fInt, dIx, atI, fLen, dLen, fTuple, wipeE, restE, noMut, itemsD, dSl, ixN])
    simp only [List.mem_cons, List.not_mem_nil, or_false] at m
    rcases m with rfl | rfl
    · exact ⟨-1, c', e, .inl rfl, w'⟩
    · exact ⟨1, c', e, .inr rfl, w'⟩
  have hf := h.fine hk
  have L0 := h.L0; have L1 := h.L1; have g0 := h.g0; have g1 := h.g1; have d0 := h.d0; have d1 := h.d1; have r0 := h.r0; have r1 := h.r1; have p0 := h.p0; have ww := h.w; have l3 := h.l3
  have pls : pl 16 (.tup l.xs) = true := pl_secs h.x 13
  have q1 := dEq_nilT pls
  have q2 := dNe_nilT pls
  by_cases b0 : lot = 0 ∧ l.xs = [] ∧ 0 < l.L + st
  · obtain ⟨rfl, hx, hp⟩ := b0
    rw [hx] at q1
    refine ⟨⟨l.n, l.L + st, 2 * l.g, l.dl, l.r, [], l.p⟩, c2, ?_, w2, rfl, rfl, ⟨hf.n, by show 1 ≤ l.L + st; omega, by show l.L + st ≤ 100; omega, by show 1 ≤ 2 * l.g; omega, by show 2 * l.g ≤ 1000; omega, hf.d0, hf.d1, hf.r0, hf.r1, (fun _ z => nomatch z), rfl, Nat.zero_le _⟩, Nat.zero_le _, ?_⟩
    · have o2 : okMul 2 l.g = true := okMul_t (by decide)
      simp [-Re.bind, ↓bind_m, big, fnB, start0, endB, bors, Slot.lent, dLt, dGt, dGe, dLe, dAdd, dSub, dMul, dMod, dDiv, dNeg, fInt, dIx, atI, fLen, dLen, fTuple, wipeE, restE, noMut, itemsD, dSl, ixN, m__law_bent_line, Ln.d, e1, e2, dEq_int, q1, hx, hp, o2, cF3]
    · show 10 * (l.L + st) ≤ l.p * (2 * l.g)
      have : l.p * (2 * l.g) = 2 * (l.p * l.g) := by rw [← Int.mul_assoc, Int.mul_comm l.p 2, Int.mul_assoc]
      rw [this]
      omega
  · have b1 : ∀ {x y : EV} (ρ : Ev) (z : SV), True := fun _ _ => trivial
    have s0 : ∀ ρ : Ev, ρ = [.bor c2, .dat l.d, .dat (.int lot), .dat (.int st), .no, .no, .no] → bAnd (bOf (eOp dEq (eV 2) (eC (.int 0)))) (bAnd (bOf (eOp dEq (eOp dIx (eV 1) (eC (.int 5))) (eTup aNil))) (bOf (eOp dGt (eOp dAdd (eOp dIx (eV 1) (eC (.int 1))) (eV 3)) (eC (.int 0))))) ρ = .ok false ρ := by
      rintro ρ rfl
      by_cases y1 : lot = 0
      · by_cases y2 : l.xs = []
        · have y3 : ¬ 0 < l.L + st := fun z => b0 ⟨y1, y2, z⟩
          rw [y2] at q1
          simp [-Re.bind, ↓bind_m, big, fnB, start0, endB, bors, Slot.lent, dLt, dGt, dGe, dLe, dAdd, dSub, dMul, dMod, dDiv, dNeg, fInt, dIx, atI, fLen, dLen, fTuple, wipeE, restE, noMut, itemsD, dSl, ixN, Ln.d, dEq_int, y1, y2, q1, y3]
        · have : l.xs.isEmpty = false := by simpa [-Re.bind, ↓bind_m, big, fnB, start0, endB, bors, Slot.lent, dLt, dGt, dGe, dLe, dAdd, dSub, dMul, dMod, dDiv, dNeg, fInt, dIx, atI, fLen, dLen, fTuple, wipeE, restE, noMut, itemsD, dSl, ixN] using y2
          rw [this] at q1
          simp [-Re.bind, ↓bind_m, big, fnB, start0, endB, bors, Slot.lent, dLt, dGt, dGe, dLe, dAdd, dSub, dMul, dMod, dDiv, dNeg, fInt, dIx, atI, fLen, dLen, fTuple, wipeE, restE, noMut, itemsD, dSl, ixN, Ln.d, dEq_int, y1, q1]
      · simp [-Re.bind, ↓bind_m, big, fnB, start0, endB, bors, Slot.lent, dLt, dGt, dGe, dLe, dAdd, dSub, dMul, dMod, dDiv, dNeg, fInt, dIx, atI, fLen, dLen, fTuple, wipeE, restE, noMut, itemsD, dSl, ixN, dEq_int, y1]
    have s0 := s0 _ rfl
    simp only [Ln.d] at s0
    by_cases y1 : lot = 1
    · refine ⟨⟨l.n, l.L, l.g + 1, l.dl, l.r, l.xs, l.p⟩, c2, ?_, w2, rfl, rfl, ⟨hf.n, hf.L0, hf.L1, by show 1 ≤ l.g + 1; omega, by show l.g + 1 ≤ 1000; omega, hf.d0, hf.d1, hf.r0, hf.r1, hf.x, hf.c, hf.l3⟩, by show l.xs.length ≤ 6; omega, ?_⟩
      · subst y1
        simp [-Re.bind, ↓bind_m, big, fnB, start0, endB, bors, Slot.lent, dLt, dGt, dGe, dLe, dAdd, dSub, dMul, dMod, dDiv, dNeg, fInt, dIx, atI, fLen, dLen, fTuple, wipeE, restE, noMut, itemsD, dSl, ixN, -bAnd, m__law_bent_line, Ln.d, e1, e2, s0, dEq_int, cF3, cT2]
      · show 10 * l.L ≤ l.p * (l.g + 1)
        rw [Int.mul_add]; omega
    by_cases y2 : lot = 2
    · obtain ⟨v, hv, v0, v1⟩ : ∃ v : Int, fMax [.int 1, .int (l.dl + st)] = some (.int v) ∧ 1 ≤ v ∧ v ≤ l.dl + 1 := ⟨_, rfl, by split <;> omega, by split <;> omega⟩
      refine ⟨⟨l.n, l.L, l.g, v, l.r, l.xs, l.p⟩, c2, ?_, w2, rfl, rfl, ⟨hf.n, hf.L0, hf.L1, hf.g0, hf.g1, v0, by show v ≤ 20000; omega, hf.r0, hf.r1, hf.x, hf.c, hf.l3⟩, by show l.xs.length ≤ 6; omega, ww⟩
      subst y2
      simp [-Re.bind, ↓bind_m, big, fnB, start0, endB, bors, Slot.lent, dLt, dGt, dGe, dLe, dAdd, dSub, dMul, dMod, dDiv, dNeg, fInt, dIx, atI, fLen, dLen, fTuple, wipeE, restE, noMut, itemsD, dSl, ixN, -bAnd, m__law_bent_line, Ln.d, e1, e2, s0, dEq_int, hv, cF4, cT3]
    by_cases y3 : lot = 3
    · obtain ⟨v, hv, v0, v1⟩ : ∃ v : Int, fMax [.int 0, .int (l.r + st)] = some (.int v) ∧ 0 ≤ v ∧ v ≤ l.r + 1 := ⟨_, rfl, by split <;> omega, by split <;> omega⟩
      refine ⟨⟨l.n, l.L, l.g, l.dl, v, l.xs, l.p⟩, c2, ?_, w2, rfl, rfl, ⟨hf.n, hf.L0, hf.L1, hf.g0, hf.g1, hf.d0, hf.d1, v0, by show v ≤ 1000000; omega, hf.x, hf.c, hf.l3⟩, by show l.xs.length ≤ 6; omega, ww⟩
      subst y3
      simp [-Re.bind, ↓bind_m, big, fnB, start0, endB, bors, Slot.lent, dLt, dGt, dGe, dLe, dAdd, dSub, dMul, dMod, dDiv, dNeg, fInt, dIx, atI, fLen, dLen, fTuple, wipeE, restE, noMut, itemsD, dSl, ixN, -bAnd, m__law_bent_line, Ln.d, e1, e2, s0, dEq_int, hv, cF5, cT4]
    by_cases y4 : lot = 4 ∧ l.xs ≠ []
    · obtain ⟨rfl, hx⟩ := y4
      have ie : l.xs.isEmpty = false := by simpa [-Re.bind, ↓bind_m, big, fnB, start0, endB, bors, Slot.lent, dLt, dGt, dGe, dLe, dAdd, dSub, dMul, dMod, dDiv, dNeg, fInt, dIx, atI, fLen, dLen, fTuple, wipeE, restE, noMut, itemsD, dSl, ixN] using hx
      rw [ie] at q2
      obtain ⟨x, xs, e⟩ := List.exists_cons_of_ne_nil hx
      have hc := h.c
      have hxx := h.x
      rw [e] at hc hxx l3
      obtain ⟨b, en, z, rfl, _⟩ := hxx x List.mem_cons_self
      simp only [chainB, Bool.and_eq_true, decide_eq_true_eq] at hc
      rw [List.length_cons] at l3
      have cf : cutG l.xs (some (1 : Int)) none = xs := by
        rw [e, cut_from (by decide) (by rw [List.length_cons]; omega)]; rfl
      refine ⟨⟨l.n, l.L, l.g, l.dl, l.r, xs, l.p⟩, c2, ?_, w2, rfl, rfl, ⟨hf.n, hf.L0, hf.L1, hf.g0, hf.g1, hf.d0, hf.d1, hf.r0, hf.r1, fun y hy => (hxx y (List.mem_cons_of_mem _ hy)).y, chain_low hc.2 (by omega), by show xs.length ≤ 8; omega⟩, by show xs.length ≤ 6; omega, ww⟩
      have s4 : bAnd (bOf (eOp dEq (eV 2) (eC (.int 4)))) (bOf (eOp dNe (eOp dIx (eV 1) (eC (.int 5))) (eTup aNil))) [.bor c2, .dat (.tup [.str l.n, .int l.L, .int l.g, .int l.dl, .int l.r, .tup l.xs]), .dat (.int 4), .dat (.int st), .no, .no, .no] = .ok true [.bor c2, .dat (.tup [.str l.n, .int l.L, .int l.g, .int l.dl, .int l.r, .tup l.xs]), .dat (.int 4), .dat (.int st), .no, .no, .no] := by
        simp [-Re.bind, ↓bind_m, big, fnB, start0, endB, bors, Slot.lent, dLt, dGt, dGe, dLe, dAdd, dSub, dMul, dMod, dDiv, dNeg, fInt, dIx, atI, fLen, dLen, fTuple, wipeE, restE, noMut, itemsD, dSl, ixN, dEq_int, q2]
      simp [-Re.bind, ↓bind_m, big, fnB, start0, endB, bors, Slot.lent, dLt, dGt, dGe, dLe, dAdd, dSub, dMul, dMod, dDiv, dNeg, fInt, dIx, atI, fLen, dLen, fTuple, wipeE, restE, noMut, itemsD, dSl, ixN, -bAnd, m__law_bent_line, Ln.d, e1, e2, s0, s4, dEq_int, cf, cut5]
    · have s4 : bAnd (bOf (eOp dEq (eV 2) (eC (.int 4)))) (bOf (eOp dNe (eOp dIx (eV 1) (eC (.int 5))) (eTup aNil))) [.bor c2, .dat (.tup [.str l.n, .int l.L, .int l.g, .int l.dl, .int l.r, .tup l.xs]), .dat (.int lot), .dat (.int st), .no, .no, .no] = .ok false [.bor c2, .dat (.tup [.str l.n, .int l.L, .int l.g, .int l.dl, .int l.r, .tup l.xs]), .dat (.int lot), .dat (.int st), .no, .no, .no] := by
        by_cases z1 : lot = 4
        · have z2 : l.xs = [] := Classical.byContradiction fun z => y4 ⟨z1, z⟩
          rw [z2] at q2
          simp [-Re.bind, ↓bind_m, big, fnB, start0, endB, bors, Slot.lent, dLt, dGt, dGe, dLe, dAdd, dSub, dMul, dMod, dDiv, dNeg, fInt, dIx, atI, fLen, dLen, fTuple, wipeE, restE, noMut, itemsD, dSl, ixN, dEq_int, z1, z2, q2]
        · simp [-Re.bind, ↓bind_m, big, fnB, start0, endB, bors, Slot.lent, dLt, dGt, dGe, dLe, dAdd, dSub, dMul, dMod, dDiv, dNeg, fInt, dIx, atI, fLen, dLen, fTuple, wipeE, restE, noMut, itemsD, dSl, ixN, dEq_int, z1]
      have lc : lcL (tTup 3 (tCons (tName 4) (tCons (tName 5) (tCons (tName 6) tNil)))) bYes (eTup (aCons (eV 4) (aCons (eV 5) (aCons (eC (.str "locked")) aNil)))) [4, 5, 6] l.xs [.bor c2, .dat (.tup [.str l.n, .int l.L, .int l.g, .int l.dl, .int l.r, .tup l.xs]), .dat (.int lot), .dat (.int st), .no, .no, .no] =
          .ok (l.xs.map lockd) [.bor c2, .dat (.tup [.str l.n, .int l.L, .int l.g, .int l.dl, .int l.r, .tup l.xs]), .dat (.int lot), .dat (.int st), .no, .no, .no] :=
        lcL_map l.xs fun d hd => by
          obtain ⟨b, en, z, rfl, _⟩ := h.x d hd
          exact ⟨[.bor c2, .dat (.tup [.str l.n, .int l.L, .int l.g, .int l.dl, .int l.r, .tup l.xs]), .dat (.int lot), .dat (.int st), .dat (.int b), .dat (.int en), .dat (.str z)], [.bor c2, .dat (.tup [.str l.n, .int l.L, .int l.g, .int l.dl, .int l.r, .tup l.xs]), .dat (.int lot), .dat (.int st), .dat (.int b), .dat (.int en), .dat (.str z)], [.bor c2, .dat (.tup [.str l.n, .int l.L, .int l.g, .int l.dl, .int l.r, .tup l.xs]), .dat (.int lot), .dat (.int st), .dat (.int b), .dat (.int en), .dat (.str z)], by simp [-Re.bind, ↓bind_m, big, fnB, start0, endB, bors, Slot.lent, dLt, dGt, dGe, dLe, dAdd, dSub, dMul, dMod, dDiv, dNeg, fInt, dIx, atI, fLen, dLen, fTuple, wipeE, restE, noMut, itemsD, dSl, ixN], rfl, by simp [-Re.bind, ↓bind_m, big, fnB, start0, endB, bors, Slot.lent, dLt, dGt, dGe, dLe, dAdd, dSub, dMul, dMod, dDiv, dNeg, fInt, dIx, atI, fLen, dLen, fTuple, wipeE, restE, noMut, itemsD, dSl, ixN, lockd], rfl⟩
      have lx : l.xs.length ≤ 1000000 := by omega
      refine ⟨⟨l.n, l.L, l.g, l.dl, l.r, l.xs.map lockd, l.p⟩, c2, ?_, w2, rfl, rfl, ⟨hf.n, hf.L0, hf.L1, hf.g0, hf.g1, hf.d0, hf.d1, hf.r0, hf.r1, fun y hy => ?_, chain_lockd h.x h.c, by show (l.xs.map lockd).length ≤ 8; rw [List.length_map]; omega⟩, by show (l.xs.map lockd).length ≤ 6; rw [List.length_map]; omega, ww⟩
      · simp [-Re.bind, ↓bind_m, big, fnB, start0, endB, bors, Slot.lent, dLt, dGt, dGe, dLe, dAdd, dSub, dMul, dMod, dDiv, dNeg, fInt, dIx, atI, fLen, dLen, fTuple, wipeE, restE, noMut, itemsD, dSl, ixN, -bAnd, m__law_bent_line, Ln.d, e1, e2, s0, s4, dEq_int, y1, y2, y3, lc, lx, cut5, Cell.frz]
      · obtain ⟨d, hd, rfl⟩ := List.mem_map.mp hy
        obtain ⟨b, en, z, rfl, _⟩ := h.x d hd
        exact ⟨b, en, "locked", rfl, locked_name⟩
end Dw


set_option Elab.async false
set_option linter.all false
set_option maxRecDepth 100000
set_option maxHeartbeats 4000000
/-! harder tasks: bent sets -/
namespace Dw
open PySem PySem.Spec PyProof.Rows L2 Gd Dx
theorem set_dap {α β : Type} (f : α → β) (ls : List α) {i : Nat} (hi : i < ls.length) (a : α) : (ls.set i a).map f = (ls.map f).take i ++ (f a :: (ls.map f).drop (i + 1)) := by
  rw [List.map_set, List.set_eq_take_append_cons_drop, if_pos (by rw [List.length_map]; exact hi)]
theorem bent_ok {c : Cell} (w : StOk c) {as : List Ln} {k : Int} (hk : k ≤ 5) (T : Tk as k) : ∃ bs c', m__law_bent [c] [.tup (as.map Ln.d)] = .ok (.tup (bs.map Ln.d)) [c'] ∧ StOk c' ∧ Tw bs := by
  have W := T.tw hk
  have n8 := T.n
  have pls : pl 16 (.tup (as.map Ln.d)) = true := pl_linesF (fun l hl => (T.w l hl).fine hk) 11
  have q1 := dEq_nilT pls
  by_cases ha : as = []
  · subst ha
    refine ⟨[], c, ?_, w, W⟩
    have q1 : dEq (.tup []) (.tup []) = some (.bl true) := q1
    simp [-Re.bind, ↓bind_m, big, fnB, start0, endB, bors, Slot.lent, dLt, dGt, dGe, dLe, dAdd, dSub, dMul, dMod, dDiv, dNeg, fInt, dIx, atI, fLen, dLen, fTuple, wipeE, restE, noMut, itemsD, dSl, ixN, m__law_bent, q1]
  have ie : (as.map Ln.d).isEmpty = false := by cases as with | nil => exact absurd rfl ha | cons _ _ => rfl
  rw [ie] at q1
  have lp : 0 < as.length := List.length_pos_iff.mpr ha
  obtain ⟨i, c1, e1, i0, i1, w1⟩ := draw_ok w (n := (as.length : Int)) (by omega) (by omega)
  obtain ⟨lot, c2, e2, a0, a1, w2⟩ := draw_ok w1 (n := 5) (by decide) (by decide)
  obtain ⟨j, rfl⟩ : ∃ j : Nat, i = j := ⟨i.toNat, by omega⟩
  have hj : j < as.length := by omega
  have ct : cutG (as.map Ln.d) none (some (j : Int)) = (as.map Ln.d).take j := by rw [cut_to (by omega), Int.toNat_natCast]
  have cf : cutG (as.map Ln.d) (some ((j : Int) + 1)) none = (as.map Ln.d).drop (j + 1) := by
    rw [cut_from (by omega) (by rw [List.length_map]; omega)]; rfl
  have c1t : cutG (as.map Ln.d) none (some (1 : Int)) = (as.map Ln.d).take 1 := by rw [cut_to (by decide)]; rfl
  have c1f : cutG (as.map Ln.d) (some (1 : Int)) none = (as.map Ln.d).drop 1 := by
    rw [cut_from (by decide) (by rw [List.length_map]; omega)]; rfl
  have L1 : ∀ m : Nat, ((as.map Ln.d).take m).length ≤ 8 := fun m => by rw [List.length_take, List.length_map]; omega
  have L2 : ∀ m : Nat, ((as.map Ln.d).drop m).length ≤ 8 := fun m => by rw [List.length_drop, List.length_map]; omega
  have at_ : (as.map Ln.d)[j]? = some as[j].d := by rw [List.getElem?_map, List.getElem?_eq_getElem hj]; rfl
  have x1 := L1 j
  have x2 := L2 (j + 1)
  have x3 := L1 1
  have x4 := L2 1
  have at2 : ∀ σ : Ev, eOp dIx (eV 1) (eV 2) [.bor c2, .dat (.tup (as.map Ln.d)), .dat (.int (j : Int)), .dat (.int lot)] = .ok as[j].d [.bor c2, .dat (.tup (as.map Ln.d)), .dat (.int (j : Int)), .dat (.int lot)] := fun _ => by
    simp [-Re.bind, ↓bind_m, big, fnB, start0, endB, bors, Slot.lent, dLt, dGt, dGe, dLe, dAdd, dSub, dMul, dMod, dDiv, dNeg, fInt, dIx, atI, fLen, dLen, fTuple, wipeE, restE, noMut, itemsD, dSl, ixN, -List.getElem?_map, hj, at_]
  have at2 := at2 []
  by_cases y0 : lot = 0
  · subst y0
    refine ⟨as.eraseIdx j, c2, ?_, w2, W.sub (List.eraseIdx_sublist _ _)⟩
    have b : ((as.map Ln.d).take j).length + ((as.map Ln.d).drop (j + 1)).length ≤ 1000000 := by omega
    have e : (as.eraseIdx j).map Ln.d = (as.map Ln.d).take j ++ (as.map Ln.d).drop (j + 1) := by
      rw [List.eraseIdx_eq_take_drop_succ, List.map_append, List.map_take, List.map_drop]
    rw [e]
    simp [-Re.bind, ↓bind_m, big, fnB, start0, endB, bors, Slot.lent, dLt, dGt, dGe, dLe, dAdd, dSub, dMul, dMod, dDiv, dNeg, fInt, dIx, atI, fLen, dLen, fTuple, wipeE, restE, noMut, itemsD, dSl, ixN, -List.length_take, -List.length_drop, -List.map_take, -List.map_drop, -eOp, eOp.eq_1, m__law_bent, q1, e1, e2, dEq_int, ct, cf, b]
  by_cases y1 : lot = 1
  · subst y1
    refine ⟨as.drop 1 ++ as.take 1, c2, ?_, w2, W.perm ?_⟩
    · have b : ((as.map Ln.d).drop 1).length + ((as.map Ln.d).take 1).length ≤ 1000000 := by omega
      have e : (as.drop 1 ++ as.take 1).map Ln.d = (as.map Ln.d).drop 1 ++ (as.map Ln.d).take 1 := by
        rw [List.map_append, List.map_take, List.map_drop]
      rw [e]
      simp only [List.drop_one] at b c1f ⊢
      simp [-Re.bind, ↓bind_m, big, fnB, start0, endB, bors, Slot.lent, dLt, dGt, dGe, dLe, dAdd, dSub, dMul, dMod, dDiv, dNeg, fInt, dIx, atI, fLen, dLen, fTuple, wipeE, restE, noMut, itemsD, dSl, ixN, -List.length_take, -List.length_drop, -List.length_tail, -List.map_take, -List.map_drop, -List.map_tail, m__law_bent, q1, e1, e2, dEq_int, c1t, c1f, b]
    · exact (List.perm_append_comm).trans (by rw [List.take_append_drop])
  by_cases y2 : lot = 2
  · subst y2
    have f := W.f _ (List.getElem_mem hj)
    refine ⟨as.set j ⟨"fresh", as[j].L, as[j].g, as[j].dl, as[j].r, as[j].xs, as[j].p⟩, c2, ?_, w2, W.set hj ⟨⟨fresh_name, f.1.L0, f.1.L1, f.1.g0, f.1.g1, f.1.d0, f.1.d1, f.1.r0, f.1.r1, f.1.x, f.1.c, f.1.l3⟩, f.2.1, f.2.2.1⟩ (.inr fun z => ?_) rfl⟩
    · have b : ((as.map Ln.d).take j).length + 1 ≤ 1000000 := by omega
      have b2 : ((as.map Ln.d).take j).length + 1 + ((as.map Ln.d).drop (j + 1)).length ≤ 1000000 := by omega
      rw [set_dap Ln.d as hj]
      simp only [Ln.d] at at2 ⊢
      have at3 := at2
      simp [-Re.bind, ↓bind_m, big, fnB, start0, endB, bors, Slot.lent, dLt, dGt, dGe, dLe, dAdd, dSub, dMul, dMod, dDiv, dNeg, fInt, dIx, atI, fLen, dLen, fTuple, wipeE, restE, noMut, itemsD, dSl, ixN, -List.length_take, -List.length_drop, -List.map_take, -List.map_drop, -List.getElem?_map, m__law_bent, q1, e1, e2, dEq_int, ct, cf, b, b2, hj, at_, Ln.d, cF1]
    · obtain ⟨l, hl, e⟩ := List.mem_map.mp z
      have m := (T.w l hl).n
      rw [e] at m
      exact fresh_nm m
  · obtain ⟨e, c3, e3, w3, B⟩ := bent_line_ok w2 (T.w _ (List.getElem_mem hj)) hk
    refine ⟨as.set j e, c3, ?_, w3, W.set hj B.f (.inl B.n) B.p⟩
    have b : ((as.map Ln.d).take j).length + 1 ≤ 1000000 := by omega
    have b2 : ((as.map Ln.d).take j).length + 1 + ((as.map Ln.d).drop (j + 1)).length ≤ 1000000 := by omega
    rw [set_dap Ln.d as hj]
    simp [-Re.bind, ↓bind_m, big, fnB, start0, endB, bors, Slot.lent, dLt, dGt, dGe, dLe, dAdd, dSub, dMul, dMod, dDiv, dNeg, fInt, dIx, atI, fLen, dLen, fTuple, wipeE, restE, noMut, itemsD, dSl, ixN, -List.length_take, -List.length_drop, -List.map_take, -List.map_drop, -List.getElem?_map, m__law_bent, q1, e1, e2, e3, dEq_int, y0, y1, y2, ct, cf, b, b2, hj, at_]
end Dw


set_option Elab.async false
set_option linter.all false
set_option maxRecDepth 100000
set_option maxHeartbeats 4000000
/-! harder tasks: all pairs of the drawn sets -/
namespace Dw
open PySem PySem.Spec PyProof.Rows L2 Gd Dx
theorem Tk.of {ls : List Ln} (o : ∀ l ∈ ls, l.ok) (nd : (ls.map Ln.n).Nodup) (s : (ls.map Ln.p).sum ≤ 9) (n : ls.length ≤ 8) : Tk ls 0 := ⟨fun l hl => (o l hl).wk, nd, n, s⟩
theorem repr_bl (b : Bool) : ∃ z, fRepr [.bl b] = some (.str z) ∧ dNe (.str z) (.str z) = some (.bl false) := by
  refine ⟨(PyData.bool b).shown, ?_, dNe_self rfl⟩
  cases b <;> exact if_pos (by decide +kernel)
abbrev twoB : D → SV := bodyD (tName 5) (sSeq (sAsg (eCall m_is_harder (aCons (eCMeth "Tasks" (m_Tasks_of []) (aCons (eV 4) aNil)) (aCons (eCMeth "Tasks" (m_Tasks_of []) (aCons (eV 5) aNil)) aNil))) (tName 8))
  (sIf (bOf (eOp dNe (eBi fRepr (aCons (eV 8) aNil)) (eBi fRepr (aCons (eCall m__law_is_harder (aCons (eV 4) (aCons (eV 5) aNil))) aNil)))) (sRet (eC (.bl false))) sNil))
abbrev lsD (X : List Ln) : D := .tup (X.map Ln.d)
theorem two_step {X Y : List Ln} (hX : TsOk X) (hY : TsOk Y) {a b c d s6 s7 s5 s8 : Slot} (h5 : NoDat s5) (h8 : NoDat s8) : twoB (lsD Y) [a, b, c, d, .dat (lsD X), s5, s6, s7, s8] = .ok .nx [a, b, c, d, .dat (lsD X), .dat (lsD Y), s6, s7, .dat (.bl (hrd X Y))] := by
  obtain ⟨z, e1, e2⟩ := repr_bl (hrd X Y)
  have o1 := of_eq hX
  have o2 := of_eq hY
  have o3 := is_harder_eq hX hY
  have o4 := law_harder_eq hX hY
  simp only [tasksO] at o1 o2 o3
  rcases h5 with rfl | ⟨_, rfl⟩ <;> rcases h8 with rfl | ⟨_, rfl⟩ <;> simp [-Re.bind, ↓bind_m, big, fnB, start0, endB, bors, Slot.lent, dLt, dGt, dGe, dLe, dAdd, dSub, dMul, dMod, dDiv, dNeg, fInt, dIx, atI, fLen, dLen, fTuple, wipeE, restE, noMut, itemsD, dSl, ixN, o1, o2, o3, o4, e1, e2]
theorem two_loop {X : List Ln} (hX : TsOk X) {a b c d s6 s7 : Slot} : ∀ (Ls : List (List Ln)) (s5 s8 : Slot), (∀ Y ∈ Ls, TsOk Y) → NoDat s5 → NoDat s8 → ∃ t5 t8, NoDat t5 ∧ NoDat t8 ∧ forD twoB (Ls.map lsD) [a, b, c, d, .dat (lsD X), s5, s6, s7, s8] = .ok .nx [a, b, c, d, .dat (lsD X), t5, s6, s7, t8]
  | [], s5, s8, _, h5, h8 => ⟨s5, s8, h5, h8, rfl⟩
  | Y :: r, s5, s8, h, h5, h8 => by
    have st := two_step hX (h Y List.mem_cons_self) (a := a) (b := b) (c := c) (d := d) (s6 := s6) (s7 := s7) h5 h8
    obtain ⟨t5, t8, g5, g8, ih⟩ := two_loop hX (a := a) (b := b) (c := c) (d := d) (s6 := s6) (s7 := s7) r (.dat (lsD Y)) (.dat (.bl (hrd X Y))) (fun Z hZ => h Z (List.mem_cons_of_mem _ hZ)) (.dat _) (.dat _)
    exact ⟨t5, t8, g5, g8, by simp only [List.map_cons, forD, st, ih]⟩
abbrev oneB : D → SV := bodyD (tName 4) (sFor (iSeq (eV 3)) (tName 5) (sSeq (sAsg (eCall m_is_harder (aCons (eCMeth "Tasks" (m_Tasks_of []) (aCons (eV 4) aNil)) (aCons (eCMeth "Tasks" (m_Tasks_of []) (aCons (eV 5) aNil)) aNil))) (tName 8))
  (sIf (bOf (eOp dNe (eBi fRepr (aCons (eV 8) aNil)) (eBi fRepr (aCons (eCall m__law_is_harder (aCons (eV 4) (aCons (eV 5) aNil))) aNil)))) (sRet (eC (.bl false))) sNil)))
theorem one_loop {a b c s6 s7 : Slot} {Qs : List (List Ln)} (hQ : ∀ Y ∈ Qs, TsOk Y) : ∀ (Ls : List (List Ln)) (s4 s5 s8 : Slot), (∀ X ∈ Ls, TsOk X) → NoDat s4 → NoDat s5 → NoDat s8 → ∃ t4 t5 t8, forD oneB (Ls.map lsD) [a, b, c, .dat (.lst (Qs.map lsD)), s4, s5, s6, s7, s8] = .ok .nx [a, b, c, .dat (.lst (Qs.map lsD)), t4, t5, s6, s7, t8] ∧ NoDat t4 ∧ NoDat t5 ∧ NoDat t8
  | [], s4, s5, s8, _, h4, h5, h8 => ⟨s4, s5, s8, rfl, h4, h5, h8⟩
  | X :: r, s4, s5, s8, h, h4, h5, h8 => by
    obtain ⟨u5, u8, g5, g8, e⟩ := two_loop (h X List.mem_cons_self) (a := a) (b := b) (c := c) (d := .dat (.lst (Qs.map lsD))) (s6 := s6) (s7 := s7) Qs s5 s8 hQ h5 h8
    have st : oneB (lsD X) [a, b, c, .dat (.lst (Qs.map lsD)), s4, s5, s6, s7, s8] = .ok .nx [a, b, c, .dat (.lst (Qs.map lsD)), .dat (lsD X), u5, s6, s7, u8] := by
      rcases h4 with rfl | ⟨_, rfl⟩ <;> simp [-Re.bind, ↓bind_m, big, fnB, start0, endB, bors, Slot.lent, dLt, dGt, dGe, dLe, dAdd, dSub, dMul, dMod, dDiv, dNeg, fInt, dIx, atI, fLen, dLen, fTuple, wipeE, restE, noMut, itemsD, dSl, ixN, -List.map_map, e]
    obtain ⟨t4, t5, t8, ih, g⟩ := one_loop (a := a) (b := b) (c := c) (s6 := s6) (s7 := s7) hQ r (.dat (lsD X)) u5 u8 (fun Z hZ => h Z (List.mem_cons_of_mem _ hZ)) (.dat _) g5 g8
    exact ⟨t4, t5, t8, by simp only [List.map_cons, forD, st, ih], g⟩
theorem pl_two {X Y : List Ln} (hX : TsOk X) (hY : TsOk Y) : pl 16 (.lst [lsD X, lsD Y]) = true := by
  have a : plL 14 (X.map Ln.d) = true := by simpa only [Dx.pl] using pl_linesF (ls := X) (fun l hl => (hX.f l hl).1) 10
  have b : plL 14 (Y.map Ln.d) = true := by simpa only [Dx.pl] using pl_linesF (ls := Y) (fun l hl => (hY.f l hl).1) 10
  simp only [Dx.pl, plL, a, b, Bool.and_self]
theorem right_eq {c : Cell} (w : StOk c) : ∃ c', m__law_right [c] [] = .ok (.bl true) [c'] ∧ StOk c' := by
  obtain ⟨as, c1, e1, w1, o1, nd1, p1, n1⟩ := some_ok w (k := 5) (by decide) (by decide)
  have n1' : as.length ≤ 5 := n1
  have T := Tk.of o1 nd1 p1 (by omega)
  obtain ⟨es, c2, e2, w2, R1⟩ := easier_ok w1 (k := 0) (by decide) T.w (by omega) true
  have T1 := R1.tk T
  have m1 := T1.n
  obtain ⟨bs1, c3, e3, w3, B1⟩ := bent_ok w2 (by decide) T
  obtain ⟨bs2, c4, e4, w4, B2⟩ := bent_ok w3 (by decide) T1
  obtain ⟨es2, c5, e5, w5, R2⟩ := easier_ok w4 (k := 0 + 1) (by decide) T1.w (by omega) false
  have T2 := R2.tk T1
  obtain ⟨as2, c6, e6, w6, o6, nd6, p6, n6⟩ := some_ok w5 (k := 3) (by decide) (by decide)
  have n6' : as2.length ≤ 3 := n6
  have T6 := Tk.of o6 nd6 p6 (by omega)
  have hA := (T.tw (by decide)).ok
  have hE := (T1.tw (by decide)).ok
  have all : ∀ X ∈ [as, es, bs1, bs2, es2, as2, []], TsOk X := by
    intro X hX
    simp only [List.mem_cons, List.not_mem_nil, or_false] at hX
    rcases hX with rfl | rfl | rfl | rfl | rfl | rfl | rfl
    · exact hA
    · exact hE
    · exact B1.ok
    · exact B2.ok
    · exact (T2.tw (by decide)).ok
    · exact (T6.tw (by decide)).ok
    · exact ⟨(fun _ z => nomatch z), List.Pairwise.nil, Nat.zero_le _, by decide +kernel⟩
  obtain ⟨t4, t5, t8, g, g4, g5, g8⟩ := one_loop (a := .bor c6) (b := .dat (lsD as)) (c := .dat (lsD es)) (s6 := .no) (s7 := .no) all [as, es, bs1, bs2, es2, as2, []] .no .no .no all .no .no .no
  refine ⟨c6, ?_, w6⟩
  have k1 := is_harder_eq hA hE
  rw [R1.hrd T] at k1
  have k2 := is_harder_eq hA hA
  rw [hrd_self T.nd] at k2
  have f1 := of_eq hA
  have f2 := of_eq hE
  have t1 := tasks_eq as
  have t2 := tasks_eq es
  have dq := dEq_self (pl_two hA hE)
  have lk : List.lookup ("Tasks" : Str) [(("Tasks" : Str), m_Tasks_tasks [])] = some (m_Tasks_tasks []) := by simp [-Re.bind, ↓bind_m, big, fnB, start0, endB, bors, Slot.lent, dLt, dGt, dGe, dLe, dAdd, dSub, dMul, dMod, dDiv, dNeg, fInt, dIx, atI, fLen, dLen, fTuple, wipeE, restE, noMut, itemsD, dSl, ixN, List.lookup]
  simp only [List.map_cons, List.map_nil, lsD] at g
  simp only [tasksO] at k1 k2 f1 f2 t1 t2
  rcases g4 with rfl | ⟨_, rfl⟩ <;> simp [-Re.bind, ↓bind_m, big, fnB, start0, endB, bors, Slot.lent, dLt, dGt, dGe, dLe, dAdd, dSub, dMul, dMod, dDiv, dNeg, fInt, dIx, atI, fLen, dLen, fTuple, wipeE, restE, noMut, itemsD, dSl, ixN, -List.map_map, m__law_right, e1, e2, e3, e4, e5, e6, g, k1, k2, f1, f2, t1, t2, lk, dq]
end Dw


set_option Elab.async false
set_option linter.all false
set_option maxRecDepth 100000
set_option maxHeartbeats 4000000
/-! harder tasks: the law -/
namespace Dw
open PySem PySem.Spec PyProof.Rows L2 Gd Dx
abbrev nos5 : Ev := [.no, .no, .no, .no, .no, .no]
def LInv (ns : List Int) (ρ : Ev) : Prop := ∃ s1 s8 s9, ρ = [.dat (.scr ns), s1, .no, .no, .no, .no, .no, .no, s8, s9, .no] ∧ ((s1 = .no ∧ s8 = .no ∧ s9 = .no) ∨ ∃ a1 c a9, s1 = .dat a1 ∧ s8 = .own c ∧ s9 = .dat a9)
abbrev turnB : D → SV := bodyD (tName 9) (sIf (bNot (bOf (eCallB m__law_right 8 aNil))) (sRet (eC (.bl false))) sNil)
theorem turn_step {ns : List Int} {at_ : D} {c : Cell} {s9 : Slot} (k : D) (h : StOk c) (h9 : NoDat s9) : ∃ c', turnB k [.dat (.scr ns), .dat at_, .no, .no, .no, .no, .no, .no, .own c, s9, .no] =
    .ok .nx [.dat (.scr ns), .dat at_, .no, .no, .no, .no, .no, .no, .own c', .dat k, .no] ∧ StOk c' := by
  obtain ⟨c2, e2, w2⟩ := right_eq h
  refine ⟨c2, ?_, w2⟩
  rcases h9 with rfl | ⟨_, rfl⟩ <;> simp [-Re.bind, ↓bind_m, big, fnB, start0, endB, bors, Slot.lent, dLt, dGt, dGe, dLe, dAdd, dSub, dMul, dMod, dDiv, dNeg, fInt, dIx, atI, fLen, dLen, fTuple, wipeE, restE, noMut, itemsD, dSl, ixN, e2]
theorem law_step {ns : List Int} {d : D} (hd : ∃ i : Int, d = .int i ∧ 0 ≤ i) {ρ : Ev} (hI : LInv ns ρ) : ∃ ρ', bodyD (tName 1) (sSeq (sOwn 8 (cCall m__law_stream (aCons (eV 0) (aCons (eV 1) aNil))))
  (sFor (iRange1 (aCons (eC (.int 3)) aNil)) (tName 9) (sIf (bNot (bOf (eCallB m__law_right 8 aNil))) (sRet (eC (.bl false))) sNil))) d ρ = .ok .nx ρ' ∧ LInv ns ρ' := by
  obtain ⟨i, rfl, hi⟩ := hd
  obtain ⟨s1, s8, s9, rfl, hs⟩ := hI
  obtain ⟨c, e1, w⟩ := stream_ok ns hi
  have h9 : NoDat s9 := by rcases hs with ⟨_, _, h⟩ | ⟨_, _, a, _, _, h⟩; exact h ▸ .no; exact h ▸ .dat a
  obtain ⟨c1, e2, w1⟩ := turn_step (ns := ns) (at_ := .int i) (s9 := s9) (.int 0) w h9
  obtain ⟨c2, e3, w2⟩ := turn_step (ns := ns) (at_ := .int i) (s9 := .dat (.int 0)) (.int 1) w1 (.dat _)
  obtain ⟨c3, e4, w3⟩ := turn_step (ns := ns) (at_ := .int i) (s9 := .dat (.int 1)) (.int 2) w2 (.dat _)
  have r3 : rngD 0 3 = [.int 0, .int 1, .int 2] := rfl
  have ok3 : okR 3 = true := by decide
  have ef : forD turnB [.int 0, .int 1, .int 2] [.dat (.scr ns), .dat (.int i), .no, .no, .no, .no, .no, .no, .own c, s9, .no] = .ok .nx [.dat (.scr ns), .dat (.int i), .no, .no, .no, .no, .no, .no, .own c3, .dat (.int 2), .no] := by
    simp only [forD, e2, e3, e4]
  refine ⟨[.dat (.scr ns), .dat (.int i), .no, .no, .no, .no, .no, .no, .own c3, .dat (.int 2), .no], ?_, _, _, _, rfl, .inr ⟨_, _, _, rfl, rfl, rfl⟩⟩
  rcases hs with ⟨rfl, rfl, rfl⟩ | ⟨a1, cc, a9, rfl, rfl, rfl⟩ <;> simp [-Re.bind, ↓bind_m, big, fnB, start0, endB, bors, Slot.lent, dLt, dGt, dGe, dLe, dAdd, dSub, dMul, dMod, dDiv, dNeg, fInt, dIx, atI, fLen, dLen, fTuple, wipeE, restE, noMut, itemsD, dSl, ixN, e1, ef, r3, ok3]
/-! the written sets -/
def gB : Ln := ⟨"b", 2, 9, 9, 1, [], 0⟩
def gTwo : List Ln := [⟨"a", 9, 50, 50, 1, [.tup [.int 0, .int 3, .str "m"]], 0⟩, gB]
def gMany : List Ln := [⟨"a", 9, 50, 50, 1, [.tup [.int 0, .int 3, .str "m"], .tup [.int 4, .int 7, .str "m"]], 0⟩, gB]
def gLong : List Ln := [⟨"a", 9, 50, 50, 1, [.tup [.int 2, .int 6, .str "m"]], 0⟩, gB]
def tenN : List Str := ["a", "b", "c", "d", "e", "f", "g", "h", "i", "j"]
def tenL : List Ln := tenN.map fun z => ⟨z, 2, 40, 40, 10, [], 0⟩
def tJ (L g dl r : Int) : Ln := ⟨"j", L, g, dl, r, [], 0⟩
def finB (l : Ln) : Bool := nameB (.str l.n) && decide (1 ≤ l.L) && decide (l.L ≤ 100) && decide (1 ≤ l.g) && decide (l.g ≤ 1000) && decide (1 ≤ l.dl) && decide (l.dl ≤ 20000) && decide (0 ≤ l.r) && decide (l.r ≤ 1000000) && chainB l.L 0 l.xs && decide (l.xs.length ≤ 6) && l.xs.all fun x => match x with
  | .tup [.int _, .int _, .str z] => nameB (.str z)
  | _ => false
theorem fin_of {l : Ln} (h : finB l = true) : l.fine ∧ l.xs.length ≤ 6 := by
  simp only [finB, Bool.and_eq_true, decide_eq_true_eq, List.all_eq_true] at h
  obtain ⟨⟨⟨⟨⟨⟨⟨⟨⟨⟨⟨h1, h2⟩, h3⟩, h4⟩, h5⟩, h6⟩, h7⟩, h8⟩, h9⟩, h10⟩, h11⟩, h12⟩ := h
  refine ⟨⟨h1, h2, h3, h4, h5, h6, h7, h8, h9, fun x hx => ?_, h10, by omega⟩, h11⟩
  have := h12 x hx
  split at this
  · exact ⟨_, _, _, rfl, this⟩
  · cases this
theorem ts_of {ls : List Ln} (h : ls.all finB = true) (nd : (ls.map Ln.n).Nodup) (n : ls.length ≤ 10) (ld : 10 * loadU ls ≤ 9 * loadW ls) : TsOk ls := ⟨fun l hl => fin_of (List.all_eq_true.mp h l hl), nd, n, ld⟩
theorem ts_two : TsOk gTwo := ts_of (by decide +kernel) (by decide +kernel) (by decide) (by decide +kernel)
theorem ts_many : TsOk gMany := ts_of (by decide +kernel) (by decide +kernel) (by decide) (by decide +kernel)
theorem ts_long : TsOk gLong := ts_of (by decide +kernel) (by decide +kernel) (by decide) (by decide +kernel)
theorem ts_ten : TsOk tenL := ts_of (by decide +kernel) (by decide +kernel) (by decide) (by decide +kernel)
def tenJ (l : Ln) : List Ln := tenL.take 9 ++ [l]
structure Js (l : Ln) : Prop where
  t : TsOk (tenJ l)
  h1 : hrd tenL (tenJ l) = true
  h2 : hrd (tenJ l) tenL = false
theorem j1 : Js (tJ 1 40 40 10) := ⟨ts_of (by decide +kernel) (by decide +kernel) (by decide) (by decide +kernel), by decide +kernel, by decide +kernel⟩
theorem j2 : Js (tJ 2 41 40 10) := ⟨ts_of (by decide +kernel) (by decide +kernel) (by decide) (by decide +kernel), by decide +kernel, by decide +kernel⟩
theorem j3 : Js (tJ 2 40 41 10) := ⟨ts_of (by decide +kernel) (by decide +kernel) (by decide) (by decide +kernel), by decide +kernel, by decide +kernel⟩
theorem j4 : Js (tJ 2 40 40 9) := ⟨ts_of (by decide +kernel) (by decide +kernel) (by decide) (by decide +kernel), by decide +kernel, by decide +kernel⟩
theorem k1 : hrd gTwo gMany = true := by decide +kernel
theorem k2 : hrd gMany gTwo = true := by decide +kernel
theorem k3 : hrd gLong gMany = true := by decide +kernel
theorem k4 : hrd gTwo gLong = false := by decide +kernel
abbrev lastB : D → SV := bodyD (tName 7) (sSeq (sApp 5 (eCall m_is_harder (aCons (eCMeth "Tasks" (m_Tasks_of []) (aCons (eV 6) aNil)) (aCons (eCMeth "Tasks" (m_Tasks_of []) (aCons (eOp dAdd (eSl (eV 6) oNo (oSo (eC (.int 9)))) (eTup (aCons (eV 7) aNil))) aNil)) aNil))))
  (sApp 5 (eNot (eCall m_is_harder (aCons (eCMeth "Tasks" (m_Tasks_of []) (aCons (eOp dAdd (eSl (eV 6) oNo (oSo (eC (.int 9)))) (eTup (aCons (eV 7) aNil))) aNil)) (aCons (eCMeth "Tasks" (m_Tasks_of []) (aCons (eV 6) aNil)) aNil))))))
theorem last_step {l : Ln} (J : Js l) {a b c d e s7 s8 s9 s10 : Slot} {told : List D} (ht : told.length < 100) (h7 : NoDat s7) : lastB l.d [a, b, c, d, e, .own (.lst told), .dat (lsD tenL), s7, s8, s9, s10] = .ok .nx [a, b, c, d, e, .own (.lst (told ++ [.bl true, .bl true])), .dat (lsD tenL), .dat l.d, s8, s9, s10] := by
  have o1 := of_eq ts_ten
  have o2 := of_eq J.t
  have o3 := is_harder_eq ts_ten J.t
  have o4 := is_harder_eq J.t ts_ten
  rw [J.h1] at o3
  rw [J.h2] at o4
  have ct : cutG (tenL.map Ln.d) none (some (9 : Int)) = (tenL.map Ln.d).take 9 := by rw [cut_to (by decide)]; rfl
  have ec : (tenJ l).map Ln.d = (tenL.map Ln.d).take 9 ++ [l.d] := by unfold tenJ; rw [List.map_append, List.map_take]; rfl
  have ln : ((tenL.map Ln.d).take 9).length = 9 := rfl
  have t1 : told.length < 1000000 := by omega
  have t2 : told.length + 1 < 1000000 := by omega
  rw [ec] at o2
  simp only [tasksO] at o1 o2 o3 o4
  rcases h7 with rfl | ⟨_, rfl⟩ <;> simp [-Re.bind, ↓bind_m, big, fnB, start0, endB, bors, Slot.lent, dLt, dGt, dGe, dLe, dAdd, dSub, dMul, dMod, dDiv, dNeg, fInt, dIx, atI, fLen, dLen, fTuple, wipeE, restE, noMut, itemsD, dSl, ixN, -List.map_take, -List.length_take, ct, ln, o1, o2, o3, o4, isLstC, withC, t1, t2, truD]
theorem e_mul8 : dMul (.lst [.bl true]) (.int 8) = some (.lst [.bl true, .bl true, .bl true, .bl true, .bl true, .bl true, .bl true, .bl true]) := by
  show (if [D.bl true].length * (8 : Int).toNat ≤ big ∧ (8 : Int).natAbs < 2 ^ 63 then some (D.lst (List.replicate (8 : Int).toNat [D.bl true]).flatten) else none) = _
  rw [if_pos ⟨by decide, by decide⟩]; rfl
theorem signs : (("abcdefghij" : Str).cps.toList.map fun c => D.str ⟨#[c]⟩) = tenN.map D.str := rfl
end Dw


set_option Elab.async false
set_option linter.all false
set_option maxRecDepth 100000
set_option maxHeartbeats 4000000
/-! harder tasks: the law holds -/
namespace Dw
open PySem PySem.Spec PyProof.Rows L2 Gd Dx
theorem law_ok (ns : List Int) (hn : ns.length ≤ 1000000) : m_law [] [.scr ns] = .ok (.bl true) [] := by
  obtain ⟨N, hN, okN, N0, _⟩ := cells_rng 8 (by decide) (by decide) hn
  have hM : fMin [.int 8, .int (ns.length : Int)] = some (.int (if (ns.length : Int) < 8 then (ns.length : Int) else 8)) := rfl
  obtain ⟨ρ', g, s1, s8, s9, rfl, hs⟩ := forD_keep (I := LInv ns) (rngD 0 N) [.dat (.scr ns), .no, .no, .no, .no, .no, .no, .no, .no, .no, .no] ⟨_, _, _, rfl, .inl ⟨rfl, rfl, rfl⟩⟩ fun d hd ρ hI => by
    obtain ⟨i, rfl, i0, i1⟩ := rngD_mem hd
    exact law_step ⟨i, rfl, i0⟩ hI
  have o1 := of_eq ts_two
  have o2 := of_eq ts_many
  have o3 := of_eq ts_long
  have q1 := is_harder_eq ts_two ts_many
  have q2 := is_harder_eq ts_many ts_two
  have q3 := is_harder_eq ts_long ts_many
  have q4 := is_harder_eq ts_two ts_long
  rw [k1] at q1
  rw [k2] at q2
  rw [k3] at q3
  rw [k4] at q4
  generalize tasksO gTwo = T1 at o1 q1 q2 q4
  generalize tasksO gMany = T2 at o2 q1 q2 q3
  generalize tasksO gLong = T3 at o3 q3 q4
  simp only [List.map_cons, List.map_nil, Ln.d, gTwo, gMany, gLong, gB] at o1 o2 o3
  have lc : ∀ a b c d e f g h i j : Slot, lcL (tName 10) bYes (eTup (aCons (eV 10) (aCons (eC (.int 2)) (aCons (eC (.int 40)) (aCons (eC (.int 40)) (aCons (eC (.int 10)) (aCons (eTup aNil) aNil))))))) [10] (tenN.map D.str) [a, b, c, d, e, f, g, h, i, j, .no] = .ok (tenL.map Ln.d) [a, b, c, d, e, f, g, h, i, j, .no] := fun a b c d e f g h i j => by
    have := lcL_of (t := tName 10) (c := bYes) (e := eTup (aCons (eV 10) (aCons (eC (.int 2)) (aCons (eC (.int 40)) (aCons (eC (.int 40)) (aCons (eC (.int 10)) (aCons (eTup aNil) aNil))))))) (vs := [10]) (ρ := [a, b, c, d, e, f, g, h, i, j, .no]) (g := D.str) (h := fun z => Ln.d ⟨z, 2, 40, 40, 10, [], 0⟩) tenN fun z hz =>
      ⟨[a, b, c, d, e, f, g, h, i, j, .dat (.str z)], [a, b, c, d, e, f, g, h, i, j, .dat (.str z)], [a, b, c, d, e, f, g, h, i, j, .dat (.str z)], rfl, rfl, by simp [-Re.bind, ↓bind_m, big, fnB, start0, endB, bors, Slot.lent, dLt, dGt, dGe, dLe, dAdd, dSub, dMod, dDiv, dNeg, fInt, dIx, atI, fLen, dLen, fTuple, wipeE, restE, noMut, dSl, ixN, Ln.d], rfl⟩
    rw [this]
    unfold tenL
    rw [List.map_map]
    rfl
  have ln : (tenN.map D.str).length = 10 := rfl
  have ln2 : (tenL.map Ln.d).length = 10 := rfl
  have it : itemsD (.str "abcdefghij") = some (tenN.map D.str) := congrArg some signs
  have lp : ∀ a b c d e s8 s9 s10 : Slot, forD lastB [.tup [.str "j", .int 1, .int 40, .int 40, .int 10, .tup []], .tup [.str "j", .int 2, .int 41, .int 40, .int 10, .tup []], .tup [.str "j", .int 2, .int 40, .int 41, .int 10, .tup []], .tup [.str "j", .int 2, .int 40, .int 40, .int 9, .tup []]] [a, b, c, d, e, .own (.lst [.bl true, .bl true, .bl true, .bl false]), .dat (.tup (tenL.map Ln.d)), .no, s8, s9, s10] =
      .ok .nx [a, b, c, d, e, .own (.lst [.bl true, .bl true, .bl true, .bl false, .bl true, .bl true, .bl true, .bl true, .bl true, .bl true, .bl true, .bl true]), .dat (.tup (tenL.map Ln.d)), .dat (tJ 2 40 40 9).d, s8, s9, s10] := fun a b c d e s8 s9 s10 => by
    have a1 := last_step j1 (a := a) (b := b) (c := c) (d := d) (e := e) (s8 := s8) (s9 := s9) (s10 := s10) (told := [.bl true, .bl true, .bl true, .bl false]) (by decide) .no
    have a2 := last_step j2 (a := a) (b := b) (c := c) (d := d) (e := e) (s8 := s8) (s9 := s9) (s10 := s10) (told := [.bl true, .bl true, .bl true, .bl false, .bl true, .bl true]) (by decide) (.dat (tJ 1 40 40 10).d)
    have a3 := last_step j3 (a := a) (b := b) (c := c) (d := d) (e := e) (s8 := s8) (s9 := s9) (s10 := s10) (told := [.bl true, .bl true, .bl true, .bl false, .bl true, .bl true, .bl true, .bl true]) (by decide) (.dat (tJ 2 41 40 10).d)
    have a4 := last_step j4 (a := a) (b := b) (c := c) (d := d) (e := e) (s8 := s8) (s9 := s9) (s10 := s10) (told := [.bl true, .bl true, .bl true, .bl false, .bl true, .bl true, .bl true, .bl true, .bl true, .bl true]) (by decide) (.dat (tJ 2 40 41 10).d)
    change lastB (.tup [.str "j", .int 1, .int 40, .int 40, .int 10, .tup []]) [a, b, c, d, e, .own (.lst [.bl true, .bl true, .bl true, .bl false]), .dat (.tup (tenL.map Ln.d)), .no, s8, s9, s10] = _ at a1
    change lastB (.tup [.str "j", .int 2, .int 41, .int 40, .int 10, .tup []]) _ = _ at a2
    change lastB (.tup [.str "j", .int 2, .int 40, .int 41, .int 10, .tup []]) _ = _ at a3
    change lastB (.tup [.str "j", .int 2, .int 40, .int 40, .int 9, .tup []]) _ = _ at a4
    simp only [List.cons_append, List.nil_append] at a1 a2 a3 a4
    simp only [forD, a1, a2, a3, a4]
  have nl : dEq (.lst [.bl true, .bl true, .bl true, .bl false, .bl true, .bl true, .bl true, .bl true, .bl true, .bl true, .bl true, .bl true]) (.lst [.bl true, .bl true, .bl true, .bl false, .bl true, .bl true, .bl true, .bl true, .bl true, .bl true, .bl true, .bl true]) = some (.bl true) := dEq_self rfl
  rcases hs with ⟨rfl, rfl, rfl⟩ | ⟨a1, cc, a9, rfl, rfl, rfl⟩ <;>
    simp [-Re.bind, ↓bind_m, big, fnB, start0, endB, bors, Slot.lent, dLt, dGt, dGe, dLe, dAdd, dSub, dMod, dDiv, dNeg, fInt, dIx, atI, fLen, dLen, fTuple, wipeE, restE, noMut, dSl, ixN, -List.map_map, m_law, hN, hM, okN, g, o1, o2, o3, q1, q2, q3, q4, it, itemsD.eq_1, itemsD.eq_2, ln, ln2, lc, lp, e_mul8, nl, Cell.frz]
end Dw

set_option Elab.async false
set_option linter.all false
set_option maxRecDepth 100000
set_option maxHeartbeats 8000000
namespace Hd
open PySem PySem.Spec PyProof.Rows L2 Gd Dx
theorem facts {P : Program} {w : World} {K : PySem.W.Frag} {h : Heap} {mg : Str → Option Value} {f : Addr} (X : K.In h) (G : h.Ns mainGlobals mg) (hfa : mg ("law" : Str) = some (.ref f)) (cd : Hy.SaysY fs fn K) :
    ∀ base : Heap, FnG P w K mg base true 10 f [] (fun vs _ => spF ⟨K, mg⟩ 0 1 Dw.m_law vs) := by
  have B : Bts mg := { len := He.free_ok X G (cd.fact 0 (f := Hy.faB (.free "len")) rfl), int := He.free_ok X G (cd.fact 1 (f := Hy.faB (.free "int")) rfl), abs := He.free_ok X G (cd.fact 2 (f := Hy.faB (.free "abs")) rfl), max := He.free_ok X G (cd.fact 3 (f := Hy.faB (.free "max")) rfl), list := He.free_ok X G (cd.fact 4 (f := Hy.faB (.free "list")) rfl), range := He.free_ok X G (cd.fact 5 (f := Hy.faB (.free "range")) rfl), tuple := He.free_ok X G (cd.fact 6 (f := Hy.faB (.free "tuple")) rfl), enumerate := He.free_ok X G (cd.fact 7 (f := Hy.faB (.free "enumerate")) rfl), str := He.free_ok X G (cd.fact 8 (f := Hy.faB (.free "str")) rfl), bool := He.free_ok X G (cd.fact 9 (f := Hy.faB (.free "bool")) rfl), isinstance := He.free_ok X G (cd.fact 10 (f := Hy.faB (.free "isinstance")) rfl), all := He.free_ok X G (cd.fact 11 (f := Hy.faB (.free "all")) rfl), zip := He.free_ok X G (cd.fact 12 (f := Hy.faB (.free "zip")) rfl), sorted := He.free_ok X G (cd.fact 13 (f := Hy.faB (.free "sorted")) rfl), dict := He.free_ok X G (cd.fact 14 (f := Hy.faB (.free "dict")) rfl), set := He.free_ok X G (cd.fact 15 (f := Hy.faB (.free "set")) rfl), repr := He.free_ok X G (cd.fact 16 (f := Hy.faB (.free "repr")) rfl), min := He.free_ok X G (cd.fact 17 (f := Hy.faB (.free "min")) rfl), sum := He.free_ok X G (cd.fact 18 (f := Hy.faB (.free "sum")) rfl), any := He.free_ok X G (cd.fact 19 (f := Hy.faB (.free "any")) rfl) }
  obtain ⟨fd_Tasks_tasks, F_Tasks_tasks⟩ := cd.def_ 0 rfl
  obtain ⟨fd_is_name, F_is_name⟩ := cd.def_ 1 rfl
  have g_is_name := He.glo_ok X G (cd.fact 20 (f := Hy.faB (.glo "is_name")) rfl)
  obtain ⟨fd_is_whole, F_is_whole⟩ := cd.def_ 2 rfl
  have g_is_whole := He.glo_ok X G (cd.fact 21 (f := Hy.faB (.glo "is_whole")) rfl)
  obtain ⟨fd__is_section, F__is_section⟩ := cd.def_ 3 rfl
  have g__is_section := He.glo_ok X G (cd.fact 22 (f := Hy.faB (.glo "_is_section")) rfl)
  obtain ⟨fd__are_sections, F__are_sections⟩ := cd.def_ 4 rfl
  have g__are_sections := He.glo_ok X G (cd.fact 23 (f := Hy.faB (.glo "_are_sections")) rfl)
  obtain ⟨fd_is_between, F_is_between⟩ := cd.def_ 5 rfl
  have g_is_between := He.glo_ok X G (cd.fact 24 (f := Hy.faB (.glo "is_between")) rfl)
  obtain ⟨fd__are_numbers, F__are_numbers⟩ := cd.def_ 6 rfl
  have g__are_numbers := He.glo_ok X G (cd.fact 25 (f := Hy.faB (.glo "_are_numbers")) rfl)
  obtain ⟨fd_is_task, F_is_task⟩ := cd.def_ 7 rfl
  have g_is_task := He.glo_ok X G (cd.fact 26 (f := Hy.faB (.glo "is_task")) rfl)
  obtain ⟨fd_check_task, F_check_task⟩ := cd.def_ 8 rfl
  have g_check_task := He.glo_ok X G (cd.fact 27 (f := Hy.faB (.glo "check_task")) rfl)
  obtain ⟨fd_section_lengths, F_section_lengths⟩ := cd.def_ 9 rfl
  have g_section_lengths := He.glo_ok X G (cd.fact 28 (f := Hy.faB (.glo "section_lengths")) rfl)
  obtain ⟨fd__is_harder_task, F__is_harder_task⟩ := cd.def_ 10 rfl
  have g__is_harder_task := He.glo_ok X G (cd.fact 29 (f := Hy.faB (.glo "_is_harder_task")) rfl)
  obtain ⟨fd_Tasks___contains__, F_Tasks___contains__⟩ := cd.def_ 11 rfl
  obtain ⟨fd_Tasks_urgency, F_Tasks_urgency⟩ := cd.def_ 12 rfl
  obtain ⟨fd_Tasks___getitem__, F_Tasks___getitem__⟩ := cd.def_ 13 rfl
  obtain ⟨fd_Tasks_names, F_Tasks_names⟩ := cd.def_ 14 rfl
  obtain ⟨fd_check_tasks, F_check_tasks⟩ := cd.def_ 15 rfl
  have g_check_tasks := He.glo_ok X G (cd.fact 30 (f := Hy.faB (.glo "check_tasks")) rfl)
  obtain ⟨fd_is_harder, F_is_harder⟩ := cd.def_ 16 rfl
  have g_is_harder := He.glo_ok X G (cd.fact 31 (f := Hy.faB (.glo "is_harder")) rfl)
  obtain ⟨fd__ceilings, F__ceilings⟩ := cd.def_ 17 rfl
  have g__ceilings := He.glo_ok X G (cd.fact 32 (f := Hy.faB (.glo "_ceilings")) rfl)
  obtain ⟨fd__share, F__share⟩ := cd.def_ 18 rfl
  have g__share := He.glo_ok X G (cd.fact 33 (f := Hy.faB (.glo "_share")) rfl)
  obtain ⟨fd__check_rows, F__check_rows⟩ := cd.def_ 19 rfl
  have g__check_rows := He.glo_ok X G (cd.fact 34 (f := Hy.faB (.glo "_check_rows")) rfl)
  obtain ⟨fd_Tasks___init__, F_Tasks___init__⟩ := cd.def_ 20 rfl
  obtain ⟨fd_Tasks_of, F_Tasks_of⟩ := cd.def_ 21 rfl
  obtain ⟨fd__law_is_longer, F__law_is_longer⟩ := cd.def_ 22 rfl
  have g__law_is_longer := He.glo_ok X G (cd.fact 35 (f := Hy.faB (.glo "_law_is_longer")) rfl)
  obtain ⟨fd__law_is_harder, F__law_is_harder⟩ := cd.def_ 23 rfl
  have g__law_is_harder := He.glo_ok X G (cd.fact 36 (f := Hy.faB (.glo "_law_is_harder")) rfl)
  obtain ⟨fd__law_draw, F__law_draw⟩ := cd.def_ 24 rfl
  have g__law_draw := He.glo_ok X G (cd.fact 37 (f := Hy.faB (.glo "_law_draw")) rfl)
  obtain ⟨fd__law_mixed, F__law_mixed⟩ := cd.def_ 25 rfl
  have g__law_mixed := He.glo_ok X G (cd.fact 38 (f := Hy.faB (.glo "_law_mixed")) rfl)
  obtain ⟨fd__law_names, F__law_names⟩ := cd.def_ 26 rfl
  have g__law_names := He.glo_ok X G (cd.fact 39 (f := Hy.faB (.glo "_law_names")) rfl)
  obtain ⟨fd__law_pick, F__law_pick⟩ := cd.def_ 27 rfl
  have g__law_pick := He.glo_ok X G (cd.fact 40 (f := Hy.faB (.glo "_law_pick")) rfl)
  obtain ⟨fd__law_sections, F__law_sections⟩ := cd.def_ 28 rfl
  have g__law_sections := He.glo_ok X G (cd.fact 41 (f := Hy.faB (.glo "_law_sections")) rfl)
  obtain ⟨fd__law_some, F__law_some⟩ := cd.def_ 29 rfl
  have g__law_some := He.glo_ok X G (cd.fact 42 (f := Hy.faB (.glo "_law_some")) rfl)
  obtain ⟨fd__law_short, F__law_short⟩ := cd.def_ 30 rfl
  have g__law_short := He.glo_ok X G (cd.fact 43 (f := Hy.faB (.glo "_law_short")) rfl)
  obtain ⟨fd__law_easier, F__law_easier⟩ := cd.def_ 31 rfl
  have g__law_easier := He.glo_ok X G (cd.fact 44 (f := Hy.faB (.glo "_law_easier")) rfl)
  obtain ⟨fd__law_bent_line, F__law_bent_line⟩ := cd.def_ 32 rfl
  have g__law_bent_line := He.glo_ok X G (cd.fact 45 (f := Hy.faB (.glo "_law_bent_line")) rfl)
  obtain ⟨fd__law_bent, F__law_bent⟩ := cd.def_ 33 rfl
  have g__law_bent := He.glo_ok X G (cd.fact 46 (f := Hy.faB (.glo "_law_bent")) rfl)
  obtain ⟨fd__law_right, F__law_right⟩ := cd.def_ 34 rfl
  have g__law_right := He.glo_ok X G (cd.fact 47 (f := Hy.faB (.glo "_law_right")) rfl)
  obtain ⟨fd__law_stream, F__law_stream⟩ := cd.def_ 35 rfl
  have g__law_stream := He.glo_ok X G (cd.fact 48 (f := Hy.faB (.glo "_law_stream")) rfl)
  obtain ⟨fd_law, F_law⟩ := cd.def_ 36 rfl
  have g_law := He.glo_ok X G (cd.fact 49 (f := Hy.faB (.glo "law")) rfl)
  have g_Tasks := He.glo_ok X G (cd.fact 50 (f := Hy.faB (.glo "Tasks")) rfl)
  have g_GREATEST_NUMBERS := He.glo_ok X G (cd.fact 58 (f := Hy.faB (.glo "GREATEST_NUMBERS")) rfl)
  have g_LEAST_NUMBERS := He.glo_ok X G (cd.fact 60 (f := Hy.faB (.glo "LEAST_NUMBERS")) rfl)
  have g_FIELDS := He.glo_ok X G (cd.fact 63 (f := Hy.faB (.glo "FIELDS")) rfl)
  have g_InvalidTask := He.glo_ok X G (cd.fact 65 (f := Hy.faB (.glo "InvalidTask")) rfl)
  have g_InvalidTasks := He.glo_ok X G (cd.fact 78 (f := Hy.faB (.glo "InvalidTasks")) rfl)
  have e := hfa.symm.trans g_law
  cases e
  intro base
  have f_Tasks__tasks : FldD ⟨K, mg⟩ "Tasks" "_tasks" := Hy.fld_of g_Tasks (cd.fact 51 (f := Hy.faB (.cls "Tasks")) rfl) (cd.fact 52 (f := Hy.faB (.noat "Tasks" "_tasks")) rfl)
  have P_tasks_Tasks : AllP P w K mg base "tasks" 1 [("Tasks", (Dw.m_Tasks_tasks []))] := (Hy.lk_cons (Hy.prop_of g_Tasks (cd.fact 51 (f := Hy.faB (.cls "Tasks")) rfl) (cd.fact 53 (f := Hy.propB "Tasks" "tasks") rfl) ((fngD (Dw.ok_Tasks_tasks (fun_of (st := Dw.st_Tasks_tasks) F_Tasks_tasks) B f_Tasks__tasks) (fun cs ds h => fnB_len cs ds h)).lv (by decide))) Hy.lk_nil)
  have k_SECTIONS : Kd ⟨K, mg⟩ "SECTIONS" (.int 5) := kd_int X G (cd.fact 54 (f := Hy.faB (.int "SECTIONS" 5)) rfl)
  have k_MAX_LETTERS : Kd ⟨K, mg⟩ "MAX_LETTERS" (.int 8) := kd_int X G (cd.fact 55 (f := Hy.faB (.int "MAX_LETTERS" 8)) rfl)
  have c_is_name : CalX P w K mg base "is_name" false 1 0 ["value"] Dw.m_is_name := calx_of (st := Dw.st_is_name) F_is_name g_is_name (fun F => Dw.ok_is_name F B k_MAX_LETTERS) (fun cs ds h => fnB_len cs ds h)
  have c_is_whole : CalX P w K mg base "is_whole" false 1 0 ["value"] Dw.m_is_whole := calx_of (st := Dw.st_is_whole) F_is_whole g_is_whole (fun F => Dw.ok_is_whole F B) (fun cs ds h => fnB_len cs ds h)
  have c__is_section : CalX P w K mg base "_is_section" false 2 0 ["value"] Dw.m__is_section := calx_of (st := Dw.st__is_section) F__is_section g__is_section (fun F => Dw.ok__is_section F B c_is_name c_is_whole) (fun cs ds h => fnB_len cs ds h)
  have k_MAX_SECTIONS : Kd ⟨K, mg⟩ "MAX_SECTIONS" (.int 8) := kd_int X G (cd.fact 56 (f := Hy.faB (.int "MAX_SECTIONS" 8)) rfl)
  have c__are_sections : CalX P w K mg base "_are_sections" false 3 0 ["value", "longest"] Dw.m__are_sections := calx_of (st := Dw.st__are_sections) F__are_sections g__are_sections (fun F => Dw.ok__are_sections F B c__is_section k_MAX_SECTIONS) (fun cs ds h => fnB_len cs ds h)
  have k_LONGEST : Kd ⟨K, mg⟩ "LONGEST" (.int 1) := kd_int X G (cd.fact 57 (f := Hy.faB (.int "LONGEST" 1)) rfl)
  have k_GREATEST_NUMBERS : Kd ⟨K, mg⟩ "GREATEST_NUMBERS" (.tup [(.int 100), (.int 1000), (.int 20000), (.int 1000000)]) := kd_tup (dv := [(.int 100), (.int 1000), (.int 20000), (.int 1000000)]) g_GREATEST_NUMBERS (cd.fact 59 (f := Hy.tupF "GREATEST_NUMBERS" [(.int 100), (.int 1000), (.int 20000), (.int 1000000)]) rfl) (by decide) (fun _ => (.cons (.int _) (.cons (.int _) (.cons (.int _) (.cons (.int _) .nil)))))
  have k_LEAST_NUMBERS : Kd ⟨K, mg⟩ "LEAST_NUMBERS" (.tup [(.int 1), (.int 1), (.int 1), (.int 0)]) := kd_tup (dv := [(.int 1), (.int 1), (.int 1), (.int 0)]) g_LEAST_NUMBERS (cd.fact 61 (f := Hy.tupF "LEAST_NUMBERS" [(.int 1), (.int 1), (.int 1), (.int 0)]) rfl) (by decide) (fun _ => (.cons (.int _) (.cons (.int _) (.cons (.int _) (.cons (.int _) .nil)))))
  have c_is_between : CalX P w K mg base "is_between" false 2 0 ["value", "least", "most"] Dw.m_is_between := calx_of (st := Dw.st_is_between) F_is_between g_is_between (fun F => Dw.ok_is_between F B c_is_whole) (fun cs ds h => fnB_len cs ds h)
  have c__are_numbers : CalX P w K mg base "_are_numbers" false 3 0 ["value"] Dw.m__are_numbers := calx_of (st := Dw.st__are_numbers) F__are_numbers g__are_numbers (fun F => Dw.ok__are_numbers F B k_GREATEST_NUMBERS k_LEAST_NUMBERS c_is_between) (fun cs ds h => fnB_len cs ds h)
  have k_NAME : Kd ⟨K, mg⟩ "NAME" (.int 0) := kd_int X G (cd.fact 62 (f := Hy.faB (.int "NAME" 0)) rfl)
  have k_FIELDS : Kd ⟨K, mg⟩ "FIELDS" (.tup [(.str "name"), (.str "longest"), (.str "gap"), (.str "deadline"), (.str "room"), (.str "sections")]) := kd_tup (dv := [(.str "name"), (.str "longest"), (.str "gap"), (.str "deadline"), (.str "room"), (.str "sections")]) g_FIELDS (cd.fact 64 (f := Hy.tupF "FIELDS" [(.str "name"), (.str "longest"), (.str "gap"), (.str "deadline"), (.str "room"), (.str "sections")]) rfl) (by decide) (fun _ => (.cons (.str _ (by decide) (by decide +kernel)) (.cons (.str _ (by decide) (by decide +kernel)) (.cons (.str _ (by decide) (by decide +kernel)) (.cons (.str _ (by decide) (by decide +kernel)) (.cons (.str _ (by decide) (by decide +kernel)) (.cons (.str _ (by decide) (by decide +kernel)) .nil)))))))
  have c_is_task : CalX P w K mg base "is_task" false 4 0 ["value"] Dw.m_is_task := calx_of (st := Dw.st_is_task) F_is_task g_is_task (fun F => Dw.ok_is_task F B c__are_sections k_LONGEST k_SECTIONS c__are_numbers c_is_name k_NAME k_FIELDS) (fun cs ds h => fnB_len cs ds h)
  have x_InvalidTask : MkX K mg "InvalidTask" := mkx_of g_InvalidTask (cd.fact 66 (f := Hy.faB (.exc "InvalidTask")) rfl)
  have c_check_task : CalX P w K mg base "check_task" false 5 0 ["task"] Dw.m_check_task := calx_of (st := Dw.st_check_task) F_check_task g_check_task (fun F => Dw.ok_check_task F B c_is_task x_InvalidTask) (fun cs ds h => fnB_len cs ds h)
  have c_section_lengths : CalX P w K mg base "section_lengths" false 6 0 ["task"] Dw.m_section_lengths := calx_of (st := Dw.st_section_lengths) F_section_lengths g_section_lengths (fun F => Dw.ok_section_lengths F B k_SECTIONS c_check_task) (fun cs ds h => fnB_len cs ds h)
  have k_DEADLINE : Kd ⟨K, mg⟩ "DEADLINE" (.int 3) := kd_int X G (cd.fact 67 (f := Hy.faB (.int "DEADLINE" 3)) rfl)
  have k_GAP : Kd ⟨K, mg⟩ "GAP" (.int 2) := kd_int X G (cd.fact 68 (f := Hy.faB (.int "GAP" 2)) rfl)
  have k_ROOM : Kd ⟨K, mg⟩ "ROOM" (.int 4) := kd_int X G (cd.fact 69 (f := Hy.faB (.int "ROOM" 4)) rfl)
  have c__is_harder_task : CalX P w K mg base "_is_harder_task" false 7 0 ["task", "other"] Dw.m__is_harder_task := calx_of (st := Dw.st__is_harder_task) F__is_harder_task g__is_harder_task (fun F => Dw.ok__is_harder_task F B c_section_lengths k_DEADLINE k_GAP k_ROOM k_LONGEST) (fun cs ds h => fnB_len cs ds h)
  have f_Tasks__urgencies : FldD ⟨K, mg⟩ "Tasks" "_urgencies" := Hy.fld_of g_Tasks (cd.fact 51 (f := Hy.faB (.cls "Tasks")) rfl) (cd.fact 70 (f := Hy.faB (.noat "Tasks" "_urgencies")) rfl)
  have S_contains_Tasks : AllS P w K mg base "__contains__" 1 2 [("Tasks", Dw.m_Tasks___contains__)] := (Hy.lk_cons (Hy.spec_of g_Tasks (cd.fact 71 (f := Hy.faB (.meth "Tasks" "__contains__")) rfl) ((Dw.ok_Tasks___contains__ (fun_of (st := Dw.st_Tasks___contains__) F_Tasks___contains__) B f_Tasks__urgencies).lv (by decide))) Hy.lk_nil)
  have M_urgency_Tasks : AllM P w K mg base "urgency" false 3 [("Tasks", (Dw.m_Tasks_urgency []))] := (Hy.lk_cons (Hy.meth_of g_Tasks (cd.fact 51 (f := Hy.faB (.cls "Tasks")) rfl) (cd.fact 72 (f := Hy.faB (.meth "Tasks" "urgency")) rfl) ((fngD (Dw.ok_Tasks_urgency (fun_of (st := Dw.st_Tasks_urgency) F_Tasks_urgency) B f_Tasks__urgencies S_contains_Tasks) (fun cs ds h => fnB_len cs ds h)).lv (by decide))) Hy.lk_nil)
  have S_getitem_Tasks : AllS P w K mg base "__getitem__" 4 2 [("Tasks", Dw.m_Tasks___getitem__)] := (Hy.lk_cons (Hy.spec_of g_Tasks (cd.fact 73 (f := Hy.faB (.meth "Tasks" "__getitem__")) rfl) ((Dw.ok_Tasks___getitem__ (fun_of (st := Dw.st_Tasks___getitem__) F_Tasks___getitem__) B f_Tasks__tasks M_urgency_Tasks).lv (by decide))) Hy.lk_nil)
  have N_getitem_Tasks : AllFn K mg "__getitem__" ["Tasks"] := (all_cons (Hy.fn_of1 (cd.fact 73 (f := Hy.faB (.meth "Tasks" "__getitem__")) rfl) (cd.fact 74 (f := Hy.fnB1 "Tasks" "__getitem__") rfl) g_Tasks) (fun _ z => nomatch z))
  have f_Tasks__names : FldD ⟨K, mg⟩ "Tasks" "_names" := Hy.fld_of g_Tasks (cd.fact 51 (f := Hy.faB (.cls "Tasks")) rfl) (cd.fact 75 (f := Hy.faB (.noat "Tasks" "_names")) rfl)
  have P_names_Tasks : AllP P w K mg base "names" 1 [("Tasks", (Dw.m_Tasks_names []))] := (Hy.lk_cons (Hy.prop_of g_Tasks (cd.fact 51 (f := Hy.faB (.cls "Tasks")) rfl) (cd.fact 76 (f := Hy.propB "Tasks" "names") rfl) ((fngD (Dw.ok_Tasks_names (fun_of (st := Dw.st_Tasks_names) F_Tasks_names) B f_Tasks__names) (fun cs ds h => fnB_len cs ds h)).lv (by decide))) Hy.lk_nil)
  have n_Tasks : ClsF K mg "Tasks" := Hy.clsF_of g_Tasks (cd.fact 51 (f := Hy.faB (.cls "Tasks")) rfl) (cd.fact 77 (f := Hy.insB "Tasks") rfl)
  have v_Tasks : Kd ⟨K, mg⟩ "Tasks" (.cls "Tasks") := kd_cls (g := ⟨K, mg⟩) g_Tasks
  have x_InvalidTasks : MkX K mg "InvalidTasks" := mkx_of g_InvalidTasks (cd.fact 79 (f := Hy.faB (.exc "InvalidTasks")) rfl)
  have c_check_tasks : CalX P w K mg base "check_tasks" false 1 0 ["tasks"] Dw.m_check_tasks := calx_of (st := Dw.st_check_tasks) F_check_tasks g_check_tasks (fun F => Dw.ok_check_tasks F B n_Tasks v_Tasks x_InvalidTasks) (fun cs ds h => fnB_len cs ds h)
  have c_is_harder : CalX P w K mg base "is_harder" false 8 0 ["tasks", "other"] Dw.m_is_harder := calx_of (st := Dw.st_is_harder) F_is_harder g_is_harder (fun F => Dw.ok_is_harder F B P_tasks_Tasks c__is_harder_task k_NAME S_getitem_Tasks N_getitem_Tasks P_names_Tasks S_contains_Tasks c_check_tasks) (fun cs ds h => fnB_len cs ds h)
  have f_Tasks__locks : FldD ⟨K, mg⟩ "Tasks" "_locks" := Hy.fld_of g_Tasks (cd.fact 51 (f := Hy.faB (.cls "Tasks")) rfl) (cd.fact 83 (f := Hy.faB (.noat "Tasks" "_locks")) rfl)
  have c__ceilings : CalX P w K mg base "_ceilings" false 1 0 ["tasks"] Dw.m__ceilings := calx_of (st := Dw.st__ceilings) F__ceilings g__ceilings (fun F => Dw.ok__ceilings F B k_SECTIONS) (fun cs ds h => fnB_len cs ds h)
  have f_Tasks__load : FldD ⟨K, mg⟩ "Tasks" "_load" := Hy.fld_of g_Tasks (cd.fact 51 (f := Hy.faB (.cls "Tasks")) rfl) (cd.fact 84 (f := Hy.faB (.noat "Tasks" "_load")) rfl)
  have g_gcd : mg "gcd" = some (.builtin "math.gcd") := Hy.blt_of X G (cd.fact 85 (f := Hy.bltB "gcd" "math.gcd") rfl)
  have c__share : CalX P w K mg base "_share" false 1 0 ["tasks"] Dw.m__share := calx_of (st := Dw.st__share) F__share g__share (fun F => Dw.ok__share F B g_gcd k_GAP k_LONGEST) (fun cs ds h => fnB_len cs ds h)
  have V_Tasks_MAX_TASKS : CVs K mg "Tasks" "MAX_TASKS" (.int 10) := Hy.cval_of g_Tasks (cd.fact 80 (f := Hy.readB "Tasks") rfl) (v := (.int 10)) (cd.fact 86 (f := Hy.valB "Tasks" "MAX_TASKS" (.int 10)) rfl) (fun _ => (.int _))
  have c__check_rows : CalX P w K mg base "_check_rows" false 5 0 ["tasks"] Dw.m__check_rows := calx_of (st := Dw.st__check_rows) F__check_rows g__check_rows (fun F => Dw.ok__check_rows F B k_NAME x_InvalidTasks c_is_task) (fun cs ds h => fnB_len cs ds h)
  have I_Tasks : CalI P w K mg base "Tasks" 6 Dw.m_new_Tasks := Hy.init_of g_Tasks (cd.fact 82 (f := Hy.faB (.mkr "Tasks")) rfl) (Dw.ok_new_Tasks (fun_of (st := Dw.st_Tasks___init__) F_Tasks___init__) B f_Tasks__locks c__ceilings f_Tasks__load f_Tasks__urgencies f_Tasks__names k_NAME f_Tasks__tasks c__share V_Tasks_MAX_TASKS c__check_rows)
  have C_Tasks_of : CalC P w K mg base "Tasks" "of" false 8 (Dw.m_Tasks_of []) := Hy.cm_of g_Tasks (cd.fact 80 (f := Hy.readB "Tasks") rfl) (cd.fact 81 (f := Hy.cmB "Tasks" "of") rfl) (fngD (Dw.ok_Tasks_of (fun_of (st := Dw.st_Tasks_of) F_Tasks_of) B I_Tasks x_InvalidTasks) (fun cs ds h => fnB_len cs ds h))
  have c__law_is_longer : CalX P w K mg base "_law_is_longer" false 1 0 ["sections", "section"] Dw.m__law_is_longer := calx_of (st := Dw.st__law_is_longer) F__law_is_longer g__law_is_longer (fun F => Dw.ok__law_is_longer F B) (fun cs ds h => fnB_len cs ds h)
  have c__law_is_harder : CalX P w K mg base "_law_is_harder" false 2 0 ["some", "other"] Dw.m__law_is_harder := calx_of (st := Dw.st__law_is_harder) F__law_is_harder g__law_is_harder (fun F => Dw.ok__law_is_harder F B c__law_is_longer) (fun cs ds h => fnB_len cs ds h)
  have c__law_draw : CalX P w K mg base "_law_draw" false 1 1 ["stream", "high"] Dw.m__law_draw := calx_of (st := Dw.st__law_draw) F__law_draw g__law_draw (fun F => Dw.ok__law_draw F B) (fun cs ds h => fnB_len cs ds h)
  have c__law_mixed : CalX P w K mg base "_law_mixed" false 2 1 ["stream", "items"] Dw.m__law_mixed := calx_of (st := Dw.st__law_mixed) F__law_mixed g__law_mixed (fun F => Dw.ok__law_mixed F B c__law_draw) (fun cs ds h => fnB_len cs ds h)
  have c__law_names : CalX P w K mg base "_law_names" false 3 1 ["stream", "much"] Dw.m__law_names := calx_of (st := Dw.st__law_names) F__law_names g__law_names (fun F => Dw.ok__law_names F B c__law_mixed) (fun cs ds h => fnB_len cs ds h)
  have c__law_pick : CalX P w K mg base "_law_pick" false 2 1 ["stream", "items"] Dw.m__law_pick := calx_of (st := Dw.st__law_pick) F__law_pick g__law_pick (fun F => Dw.ok__law_pick F B c__law_draw) (fun cs ds h => fnB_len cs ds h)
  have c__law_sections : CalX P w K mg base "_law_sections" false 3 1 ["stream", "high", "locks"] Dw.m__law_sections := calx_of (st := Dw.st__law_sections) F__law_sections g__law_sections (fun F => Dw.ok__law_sections F B c__law_pick c__law_draw) (fun cs ds h => fnB_len cs ds h)
  have c__law_some : CalX P w K mg base "_law_some" false 4 1 ["stream", "most"] Dw.m__law_some := calx_of (st := Dw.st__law_some) F__law_some g__law_some (fun F => Dw.ok__law_some F B c__law_names c__law_sections c__law_draw c__law_pick) (fun cs ds h => fnB_len cs ds h)
  have c__law_short : CalX P w K mg base "_law_short" false 2 1 ["stream", "line"] Dw.m__law_short := calx_of (st := Dw.st__law_short) F__law_short g__law_short (fun F => Dw.ok__law_short F B c__law_draw) (fun cs ds h => fnB_len cs ds h)
  have c__law_easier : CalX P w K mg base "_law_easier" false 3 1 ["stream", "some", "parting"] Dw.m__law_easier := calx_of (st := Dw.st__law_easier) F__law_easier g__law_easier (fun F => Dw.ok__law_easier F B c__law_draw c__law_short c__law_pick) (fun cs ds h => fnB_len cs ds h)
  have c__law_bent_line : CalX P w K mg base "_law_bent_line" false 3 1 ["stream", "line"] Dw.m__law_bent_line := calx_of (st := Dw.st__law_bent_line) F__law_bent_line g__law_bent_line (fun F => Dw.ok__law_bent_line F B c__law_pick c__law_draw) (fun cs ds h => fnB_len cs ds h)
  have c__law_bent : CalX P w K mg base "_law_bent" false 4 1 ["stream", "some"] Dw.m__law_bent := calx_of (st := Dw.st__law_bent) F__law_bent g__law_bent (fun F => Dw.ok__law_bent F B c__law_bent_line c__law_draw) (fun cs ds h => fnB_len cs ds h)
  have c__law_right : CalX P w K mg base "_law_right" true 9 1 ["stream"] Dw.m__law_right := calx_of (st := Dw.st__law_right) F__law_right g__law_right (fun F => Dw.ok__law_right F B P_tasks_Tasks c_is_harder C_Tasks_of c__law_is_harder c__law_some c__law_easier c__law_bent) (fun cs ds h => fnB_len cs ds h)
  have c__law_stream : CalX P w K mg base "_law_stream" false 1 0 ["script", "at"] Dw.m__law_stream := calx_of (st := Dw.st__law_stream) F__law_stream g__law_stream (fun F => Dw.ok__law_stream F B) (fun cs ds h => fnB_len cs ds h)
  exact Dw.ok_law (fun_of (st := Dw.st_law) F_law) B c_is_harder C_Tasks_of c__law_right c__law_stream
end Hd
open PySem PySem.W PySem.Calls PyProof.Rows
theorem PySem.Challenge.cw_holdlevels_k74_harder_tasks_judged_holds : PySem.Challenge.rw_holdlevels_k74_harder_tasks_judged.Holds := by
  w_on; o_law
  refine HandSHeadRun.head_imp (r := OpenLaw.row PySem.Challenge.rw_holdlevels_k74_harder_tasks_judged) (q := view (OpenLaw.row PySem.Challenge.rw_holdlevels_k74_harder_tasks_judged).prog [0, Hd.lawAt]) (H := Hd.hk) (ob := Hd.ob) (M := 6000) (loose := Hd.loose) (d := HandSHeadRun.topDef (OpenLaw.row PySem.Challenge.rw_holdlevels_k74_harder_tasks_judged).prog Hd.lawAt) (kwd := []) Hd.ob_eq
    Hd.run (by kernel_rfl) (by kernel_rfl) (by kernel_rfl) (by rfl) (by first | assumption | decide +kernel) (by decide +kernel) ⟨rfl, rfl, rfl, rfl, rfl, by decide +kernel⟩ ?hw ?hc
  case hw => w_witness2
  case hc =>
    refine Dx.walk_x (l := PySem.Challenge.rw_holdlevels_k74_harder_tasks_judged) (n := 63) (b := true) (k := 10) (m := Dw.m_law) rfl (by decide) (by kernel_rfl) ⟨⟨rfl, by decide, by decide⟩, fun _ => rfl⟩ (fun ns hl => Dw.law_ok ns (by omega)) ?F
    intro w mg fa h Y G hmg0
    obtain ⟨K, KX, c⟩ := Y
    have hmg : mg ("law" : PySem.Str) = some (.ref fa) := by
      have e : (HandSHeadRun.topDef (OpenLaw.row PySem.Challenge.rw_holdlevels_k74_harder_tasks_judged).prog Hd.lawAt).name = ("law" : PySem.Str) := by kernel_rfl
      rw [← e]
      exact hmg0
    exact ⟨K, KX, fun base => Hd.facts (P := (PySem.Challenge.rw_holdlevels_k74_harder_tasks_judged).prog) (w := w) KX G hmg c base⟩
